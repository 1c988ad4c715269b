/- Mathematics: the text of a type that may be is parsed as that type. -/
import Derived.Test.YtifkjngclkklfaaGreatDoorMHc
import Derived.Test.YtifkjngclkklfaaGreatDoorMGp
import Derived.Test.YtifkjngclkklfaaGreatDoorMGu
namespace Go.Proofs.YtifkjngclkklfaaGreatDoor
namespace Tm
open Ps Pg
/-- Pieces of tokens, each with its text. -/
def PieceOk (l : List Tok) (q : List Kt × Bs) : Prop := ∀ j rest, At l j (q.1 ++ rest) → Sg l j (j + q.1.length) q.2
theorem sg_more {l : List Tok} : ∀ (qs : List (List Kt × Bs)), (∀ q ∈ qs, PieceOk l q) → ∀ (i j : Nat) (acc : Bs) (rest : List Kt), Sg l i j acc → At l j ((qs.flatMap fun q => (5, [44]) :: q.1) ++ rest) → Sg l i (j + (qs.flatMap fun q => (5, [44]) :: q.1).length) (acc ++ qs.flatMap fun q => [44, 32] ++ q.2)
  | [], _, i, j, acc, rest, h, _ => by simpa using h
  | q :: qs, hq, i, j, acc, rest, h, hat => by
    simp only [List.flatMap_cons, List.cons_append, List.append_assoc] at hat
    have h1 := h.sgn (hat.is (.inr rfl)) (by decide)
    have h2 := h1.far (hq q List.mem_cons_self (j + 1) _ hat.tail)
    have h3 := sg_more qs (fun p hp => hq p (List.mem_cons_of_mem _ hp)) i (j + 1 + q.1.length) _ rest h2 hat.tail.right
    simp only [List.flatMap_cons, List.length_append, List.length_cons]
    rw [show j + (q.1.length + 1 + (qs.flatMap fun q => (5, [44]) :: q.1).length) = j + 1 + q.1.length + (qs.flatMap fun q => (5, [44]) :: q.1).length by omega]
    simpa using h3
/-- Commas between, right behind an opening sign, and a closing one. -/
theorem sg_within {l : List Tok} {i j : Nat} {acc : Bs} {o c : Bs} (qs : List (List Kt × Bs)) (hq : ∀ q ∈ qs, PieceOk l q) (h : Sg l i (j + 1) acc) (ho : isM l j o = true) (hh : hard o = true) (hc : soft c = true) {rest : List Kt} (hat : At l (j + 1) (joinK (qs.map Prod.fst) ++ (5, c) :: rest)) :
    Sg l i (j + 1 + (joinK (qs.map Prod.fst)).length + 1) (acc ++ joinB (qs.map Prod.snd) ++ c) := by
  cases qs with
  | nil =>
    simp only [List.map_nil, joinK, joinB, List.nil_append, List.append_nil, List.length_nil] at hat ⊢
    exact h.sgn (hat.is (.inr rfl)) hc
  | cons q qs =>
    simp only [List.map_cons, joinK, joinB, List.flatMap_map] at hat ⊢
    rw [List.append_assoc] at hat
    have h1 := h.hrd (hq q List.mem_cons_self (j + 1) _ hat) (x := o) ho hh
    have h2 := sg_more qs (fun p hp => hq p (List.mem_cons_of_mem _ hp)) i (j + 1 + q.1.length) _ _ h1 hat.right
    have h3 := h2.sgn (hat.right.right.is (.inr rfl)) hc
    rw [List.length_append, show j + 1 + (q.1.length + (qs.flatMap fun q => (5, [44]) :: q.1).length) + 1 = j + 1 + q.1.length + (qs.flatMap fun q => (5, [44]) :: q.1).length + 1 by omega]
    simpa using h3
theorem rec_pieces : ∀ (ns : List ByteArray) (ps : List Ty), ∃ qs : List (List Kt × Bs), recK ns (tksL ps) = qs.map Prod.fst ∧ recB ns (textL ps) = qs.map Prod.snd ∧ ∀ q ∈ qs, ∃ n p, p ∈ ps ∧ n ∈ ns ∧ q = ((1, n.data.toList) :: (5, [58]) :: p.tks, n.data.toList ++ [58, 32] ++ p.text)
  | [], ps => ⟨[], by simp [recK], by simp [recB], fun q hq => by cases hq⟩
  | _ :: _, [] => ⟨[], by simp [recK, tksL], by simp [recB, textL], fun q hq => by cases hq⟩
  | n :: ns, p :: ps => by
    obtain ⟨qs, h1, h2, h3⟩ := rec_pieces ns ps
    refine ⟨((1, n.data.toList) :: (5, [58]) :: p.tks, n.data.toList ++ [58, 32] ++ p.text) :: qs, by rw [tksL, recK, h1, List.map_cons], by rw [textL, recB, h2, List.map_cons], fun q hq => ?_⟩
    rcases List.mem_cons.1 hq with rfl | hq
    · exact ⟨n, p, List.mem_cons_self, List.mem_cons_self, rfl⟩
    · obtain ⟨n', p', a, b, c⟩ := h3 q hq
      exact ⟨n', p', List.mem_cons_of_mem _ a, List.mem_cons_of_mem _ b, c⟩
/-- A type's text is its tokens, far enough apart. -/
theorem sg_type (l : List Tok) : ∀ t : Ty, t.right = true → PieceOk l (t.tks, t.text) := by
  refine Ty.ind fun k ns ps ih hr i rest hat => ?_
  have hpr : ∀ p ∈ ps, PieceOk l (p.tks, p.text) := fun p hp => ih p hp (right_part hr hp)
  simp only at hat ⊢
  have one : ∀ {i k : Nat} {x : Bs} {ts : List Kt}, At l i ((k, x) :: ts) → Sg l i (i + 1) x := fun h => by
    obtain ⟨h1, h2⟩ := h.txt
    rw [← h1]
    exact .one _ h2
  rcases right_cases hr with ⟨hk, rfl, rfl⟩ | ⟨rfl, hl, hnm, hrise⟩ | ⟨rfl, rfl, hpos⟩
  · have h3 : k ≠ 3 := by omega
    have h4 : k ≠ 4 := by omega
    rw [Ty.tks, if_neg h3, if_neg h4] at hat
    rw [Ty.tks, if_neg h3, if_neg h4, Ty.text, if_neg h3, if_neg h4]
    exact one hat
  · rw [Ty.tks, if_pos rfl] at hat
    rw [Ty.tks, if_pos rfl, Ty.text, if_pos rfl]
    obtain ⟨qs, h1, h2, h3⟩ := rec_pieces ns ps
    rw [h1] at hat ⊢
    rw [h2]
    simp only [List.cons_append, List.append_assoc, List.nil_append] at hat
    have := sg_within (i := i) (j := i) (acc := [123]) (o := [123]) (c := [125]) qs (fun q hq j rest hj => by
      obtain ⟨n, p, hp, _, rfl⟩ := h3 q hq
      simp only [List.cons_append] at hj
      have g1 := (one hj).sgn (hj.tail.is (.inr rfl)) (by decide)
      have g2 := g1.far (hpr p hp (j + 1 + 1) rest hj.tail.tail)
      simp only [List.length_cons]
      rw [show j + (p.tks.length + 1 + 1) = j + 1 + 1 + p.tks.length by omega]
      simpa using g2) (one hat) (hat.is (.inr rfl)) (by decide) (by decide) hat.tail
    simp only [List.length_cons, List.length_append, List.length_nil]
    rw [show i + ((joinK (qs.map Prod.fst)).length + (0 + 1) + 1) = i + 1 + (joinK (qs.map Prod.fst)).length + 1 by omega]
    exact this
  · obtain ⟨qs, q, rfl⟩ : ∃ qs q, ps = qs ++ [q] := ⟨ps.dropLast, ps.getLast (List.ne_nil_of_length_pos hpos), (List.dropLast_concat_getLast _).symm⟩
    have et : (Ty.mk 4 [] (qs ++ [q])).tks = (2, [102, 110]) :: (5, [40]) :: (joinK (tksL qs) ++ (5, [41]) :: (5, [58]) :: q.tks) := by
      rw [Ty.tks, if_neg (by omega), if_pos rfl, tksL_map, tksL_map, List.map_append, List.length_append]
      simp
    have ex : (Ty.mk 4 [] (qs ++ [q])).text = [102, 110, 40] ++ joinB (textL qs) ++ [41, 58, 32] ++ q.text := by
      rw [Ty.text, if_neg (by omega), if_pos rfl, textL_map, textL_map, List.map_append, List.length_append]
      simp
    rw [et] at hat
    rw [et, ex]
    simp only [List.cons_append, List.append_assoc] at hat
    have g1 := (one hat).sgn (hat.tail.is (.inr rfl)) (by decide)
    have e1 : tksL qs = (qs.map fun p => (p.tks, p.text)).map Prod.fst := by rw [tksL_map, List.map_map]; rfl
    have e2 : textL qs = (qs.map fun p => (p.tks, p.text)).map Prod.snd := by rw [textL_map, List.map_map]; rfl
    rw [e1] at hat ⊢
    rw [e2]
    have g2 := sg_within (i := i) (j := i + 1) (acc := [102, 110] ++ [40]) (o := [40]) (c := [41]) (qs.map fun p => (p.tks, p.text)) (fun x hx => by
      obtain ⟨p, hp, rfl⟩ := List.mem_map.1 hx
      exact hpr p (List.mem_append_left _ hp)) g1 (hat.tail.is (.inr rfl)) (by decide) (by decide) hat.tail.tail
    have h3 := hat.tail.tail.right
    have g3 := g2.sgn (h3.tail.is (.inr rfl)) (by decide)
    have g4 := g3.far (hpr q (List.mem_append_right _ (List.mem_singleton.2 rfl)) _ rest h3.tail.tail)
    simp only [List.length_cons, List.length_append]
    rw [show ∀ a b : Nat, i + (a + (b + 1 + 1) + 1 + 1) = i + 1 + 1 + a + 1 + 1 + b by intro a b; omega]
    simpa using g4
/-- What is asked of a token: read alone, it is itself. -/
def tokOk (x : Kt) : Prop := firstL x.2 = (x.1, x.2.length, 0) ∧ x.1 ≠ 0 ∧ badAt x.2 = none ∧ x.2.length ≤ 40
theorem tok_sign : ∀ x ∈ ([[123], [125], [44], [58], [40], [41]] : List Bs), tokOk (5, x) := by
  intro x hx
  simp only [List.mem_cons, List.not_mem_nil, or_false] at hx
  rcases hx with rfl | rfl | rfl | rfl | rfl | rfl <;> exact ⟨by decide +kernel, by decide, by decide +kernel, by decide⟩
theorem tok_key : ∀ x ∈ ([[102, 110], [100, 121, 110], [105, 110, 116], [115, 116, 114]] : List Bs), tokOk (2, x) := by
  intro x hx
  simp only [List.mem_cons, List.not_mem_nil, or_false] at hx
  rcases hx with rfl | rfl | rfl | rfl <;> exact ⟨by decide +kernel, by decide, by decide +kernel, by decide⟩
theorem wLen_low : ∀ x : Bs, wLen x = x.length → ∀ b ∈ x, wdN b.toNat = true := by
  intro x h
  have := (wLen_all x).2 h
  unfold allW at this
  rw [List.all_eq_true] at this
  exact this
theorem tok_name {n : ByteArray} (h : nmB n = true) : tokOk (1, n.data.toList) := by
  unfold nmB nameL at h
  simp only [Bool.and_eq_true, decide_eq_true_eq, Bool.not_eq_true'] at h
  obtain ⟨⟨⟨⟨h1, h2⟩, h3⟩, h4⟩, h5⟩ := h
  have hw := wLen_low _ h3
  refine ⟨?_, Nat.one_ne_zero, ?_, h4⟩
  · unfold firstL
    rw [if_neg h1, if_pos h2]
    unfold wordL
    rw [h3, List.take_length, h5]
    rw [if_neg (by simp), if_neg (by omega)]
  · refine ascii_good _ fun b hb => ?_
    have := hw b hb
    unfold wdN letN digN at this
    simp only [Bool.or_eq_true, decide_eq_true_eq] at this
    omega
theorem tok_all : ∀ t : Ty, t.right = true → ∀ x ∈ t.tks, tokOk x := by
  have join : ∀ (qs : List (List Kt)), (∀ q ∈ qs, ∀ x ∈ q, tokOk x) → ∀ x ∈ joinK qs, tokOk x := fun qs h x hx => by
    cases qs with
    | nil => cases hx
    | cons q qs =>
      rcases List.mem_append.1 hx with hx | hx
      · exact h q List.mem_cons_self x hx
      · obtain ⟨r, hr, hx⟩ := List.mem_flatMap.1 hx
        rcases List.mem_cons.1 hx with rfl | hx
        · exact tok_sign _ (by simp)
        · exact h r (List.mem_cons_of_mem _ hr) x hx
  refine Ty.ind fun k ns ps ih hr x hx => ?_
  rw [Ty.tks] at hx
  have hpr : ∀ p ∈ ps, ∀ x ∈ p.tks, tokOk x := fun p hp => ih p hp (right_part hr hp)
  split at hx
  · rename_i hk
    subst hk
    have hnm : ∀ n ∈ ns, nmB n = true := by
      rcases right_cases hr with ⟨h, _⟩ | ⟨_, _, h, _⟩ | ⟨h, _⟩
      · omega
      · rw [List.all_eq_true] at h; exact h
      · omega
    obtain ⟨qs, h1, _, h3⟩ := rec_pieces ns ps
    rw [h1] at hx
    rcases List.mem_cons.1 hx with rfl | hx
    · exact tok_sign _ (by simp)
    rcases List.mem_append.1 hx with hx | hx
    · refine join _ (fun q hq x hx => ?_) x hx
      obtain ⟨z, hz, rfl⟩ := List.mem_map.1 hq
      obtain ⟨n, p, hp, hn, rfl⟩ := h3 z hz
      rcases List.mem_cons.1 hx with rfl | hx
      · exact tok_name (hnm n hn)
      rcases List.mem_cons.1 hx with rfl | hx
      · exact tok_sign _ (by simp)
      · exact hpr p hp x hx
    · rw [List.mem_singleton.1 hx]
      exact tok_sign _ (by simp)
  · split at hx
    · rcases List.mem_cons.1 hx with rfl | hx
      · exact tok_key _ (by simp)
      rcases List.mem_cons.1 hx with rfl | hx
      · exact tok_sign _ (by simp)
      rcases List.mem_append.1 hx with hx | hx
      · refine join _ (fun q hq x hx => ?_) x hx
        rw [tksL_map] at hq
        obtain ⟨p, hp, rfl⟩ := List.mem_map.1 (List.mem_of_mem_take hq)
        exact hpr p hp x hx
      rcases List.mem_cons.1 hx with rfl | hx
      · exact tok_sign _ (by simp)
      rcases List.mem_cons.1 hx with rfl | hx
      · exact tok_sign _ (by simp)
      · cases hg : (tksL ps).getLast? with
        | none => rw [hg] at hx; cases hx
        | some q =>
          rw [hg] at hx
          have hq := List.mem_of_getLast? hg
          rw [tksL_map] at hq
          obtain ⟨p, hp, rfl⟩ := List.mem_map.1 hq
          exact hpr p hp x hx
    · rw [List.mem_singleton.1 hx]
      refine tok_key _ ?_
      unfold plainB
      split
      · simp
      · split <;> simp
def mkTok (x : Kt) : Tok := ⟨x.1, 0, ⟨#[]⟩, ⟨x.2.toArray⟩⟩
/-- A text that is a type's is parsed as that type. -/
theorem parse_back {t : Ty} {s : ByteArray} (hr : t.right = true) (hd : t.depth ≤ 12) (hs : s.data.toList = t.text) (hz : s.size ≤ 16384) (hn : t.tks.length + 1 ≤ 4000) : parseT s = (0, t) := by
  obtain ⟨l, hl⟩ : ∃ l, l = (t.tks ++ [(0, [])]).map mkTok := ⟨_, rfl⟩
  have len : l.length = t.tks.length + 1 := by rw [hl]; simp
  have get : ∀ i, l[i]? = ((t.tks ++ [(0, [])])[i]?).map mkTok := fun i => by rw [hl, List.getElem?_map]
  have hat : At l 0 (t.tks ++ []) := fun j x e => by
    rw [List.append_nil] at e
    refine ⟨mkTok x, ?_, rfl, by simp [mkTok]⟩
    rw [Nat.zero_add, get, List.getElem?_append_left (List.getElem?_eq_some_iff.1 e).1, e]
    rfl
  have htx : ∀ i (h : i + 1 < l.length), ∃ x ∈ t.tks, l[i].kind = x.1 ∧ txt l i = x.2 := fun i h => by
    have hi : i < t.tks.length := by omega
    refine ⟨t.tks[i], List.getElem_mem _, ?_, ?_⟩
    · have := get i
      rw [List.getElem?_eq_getElem (by omega), List.getElem?_append_left hi, List.getElem?_eq_getElem hi] at this
      injection this with this
      rw [this]
      rfl
    · have := get i
      unfold Ps.txt textAt
      rw [this, List.getElem?_append_left hi, List.getElem?_eq_getElem hi]
      simp [mkTok]
  have F : LexOk l := by
    refine ⟨fun i h => ?_, fun i h hi => ?_, fun i h => ?_, fun i h => ?_⟩
    · obtain ⟨x, hx, e1, e2⟩ := htx i h
      have := tok_all t hr x hx
      rw [e1, e2]
      exact ⟨this.1, this.2.1⟩
    · have := get i
      rw [List.getElem?_eq_getElem h, List.getElem?_append_right (by omega), show i - t.tks.length = 0 by omega] at this
      injection this with this
      rw [this]
      exact ⟨rfl, rfl⟩
    · obtain ⟨x, hx, _, e2⟩ := htx i h
      rw [e2]
      exact (tok_all t hr x hx).2.2.1
    · obtain ⟨x, hx, _, e2⟩ := htx i h
      rw [e2]
      have := (tok_all t hr x hx).2.2.2
      omega
  have hsg := sg_type l t hr 0 [] hat
  rw [Nat.zero_add] at hsg
  simp only at hsg
  have hend : Lin l t.tks.length [] := .nil _ _ (by omega) blank0
  have hlin := hsg.lin F [] hend (fun c h => by cases h) (by omega)
  rw [List.append_nil] at hlin
  obtain ⟨C, hC, hkt⟩ := lin_lex s F 0 t.text hlin 0 0 (s.size + 1) (Nat.zero_le _) (by rw [← hs]; unfold tl; rfl) (by omega) (by
    rw [← hs]
    have : s.data.toList.length = s.size := Array.length_toList
    omega)
  rw [List.drop_zero] at hkt
  have hutf := hsg.utf F (by omega)
  have hlex : lexR s = .good C := by
    unfold lexR
    rw [if_neg (by omega), if_neg (by rw [hs, hutf]; simp), hC]
  have hCl : C.length = t.tks.length + 1 := by
    have := congrArg List.length hkt
    simpa [len] using this
  have hatC : At C 0 (t.tks ++ []) := fun j x e => by
    obtain ⟨tk, e1, e2, e3⟩ := hat j x e
    have := congrArg (fun z => z[0 + j]?) hkt
    simp only [List.getElem?_map, e1, Option.map_some] at this
    cases hc : C[0 + j]? with
    | none => rw [hc] at this; cases this
    | some c =>
      rw [hc] at this
      simp only [Option.map_some, kt, Option.some.injEq, Prod.mk.injEq] at this
      exact ⟨c, rfl, by rw [this.1]; exact e2, by rw [this.2]; exact e3⟩
  obtain ⟨h, k, g1, g2, g3⟩ := reads t hr C 0 fuel [] hatC (by unfold fuel; omega)
  have hty : typeM s = .ok h k := by
    unfold typeM ptypeM
    rw [hlex]
    simp only [g1]
    unfold wholeM
    rw [if_neg (by simp), if_neg (by simp; omega)]
    simp only [Fo.one]
    rw [if_neg (by omega)]
  unfold parseT
  rw [hty]
  simp only [g2]
  unfold ofEnd
  rw [if_neg (by rintro ⟨_, h⟩; simp only at h; omega)]
end Tm
end Go.Proofs.YtifkjngclkklfaaGreatDoor
/- Contracts: what a function's nodes tell, by the program. -/
namespace Go.Proofs.YtifkjngclkklfaaGreatDoor
open Go.RowKit Go.Op
namespace Tm
open Ps Pg
/-- What has been laid, and what is left. -/
def fin2 (tl : List Ty) (F : Int × List Ty) : Int × List Ty := (F.1, tl ++ F.2)
theorem fin2_bad {h : Hd} {kk r : Fo} {tl : List Ty} {n : Nat} (hn : n ≠ 0) (hc : (node h kk.len (tri kk).2.1 (tri kk).2.2).1 ≠ 0) : fnEnd n (fin2 tl (tri (.cons h kk r)).2.2) = ((node h kk.len (tri kk).2.1 (tri kk).2.2).1, dyn) := by
  simp only [tri, fnStep, if_pos hc, fin2, fnEnd, if_neg hn]
theorem fin2_next {h : Hd} {kk r : Fo} {tl : List Ty} (hc : (node h kk.len (tri kk).2.1 (tri kk).2.2).1 = 0) : fin2 tl (tri (.cons h kk r)).2.2 = fin2 (tl ++ [(node h kk.len (tri kk).2.1 (tri kk).2.2).2]) (tri r).2.2 := by
  simp [tri, fnStep, hc, fin2]
/-- All blocks but one stay. -/
def Ap (G : Nat) (w w' : World) : Prop := w.heap.size ≤ w'.heap.size ∧ ∀ g, g < w.heap.size → g ≠ G → w'.heap[g]? = w.heap[g]?
theorem Ap.cell {G : Nat} {w w' : World} (h : Ap G w w') {g o : Nat} (hl : g < w.heap.size) (hn : g ≠ G) : w'.cell? ⟨g, o, none⟩ = w.cell? ⟨g, o, none⟩ := World.cell?_of_block (h.2 g hl hn)
theorem Ap.of {G : Nat} {w w' : World} (h : Below w.heap.size w w') : Ap G w w' := ⟨h.size, fun g hl _ => h.block g hl⟩
theorem Ap.put3 {G : Nat} {w w' : World} (h : Ap G w w') (a b c : Value) : Ap G w (((w'.setCell ⟨G, 0, none⟩ a).setCell ⟨G, 1, none⟩ b).setCell ⟨G, 2, none⟩ c) :=
  ⟨by simpa [World.setCell] using h.1, fun g hl hn => (Below.heap_setCell _ _ _ g hn).trans ((Below.heap_setCell _ _ _ g hn).trans ((Below.heap_setCell _ _ _ g hn).trans (h.2 g hl hn)))⟩
set_option maxHeartbeats 8000000 in
set_option maxRecDepth 100000 in
theorem told_fn (w : World) (k : Fo) (P : Nat → Prop) (A : Option Addr) (cap : Nat) (hK : KV w P k A cap) (hl : k.len ≤ 1000001) (IH : TK k) :
    Calls Tryz.prog 101 #[.slice A k.len cap] w (ToldQ (fnEnd k.len (tri k).2.2) w) := by
  obtain ⟨W0, hW0⟩ : ∃ W0, W0 = w.alloc (.cells tzc 25) := ⟨_, rfl⟩
  have B0 : Hid (Below w.heap.size w W0) := by rw [hW0]; exact bel1 w _
  have X0 : Hid (RowB W0 w.heap.size 25 tzc) := by rw [hW0]; exact RowB.new w 25 tzc
  have HW0 : Hid (W0.heap.size = w.heap.size + 1) := by rw [hW0]; simp [Hid]
  obtain ⟨R, hR⟩ : ∃ R, R = fnEnd k.len (tri k).2.2 := ⟨_, rfl⟩
  rw [← hR]
  have HR := Lib.hid hR
  have HK := Lib.hid (hK.below B0.out)
  have HI := Lib.hid IH
  obtain ⟨n, hn⟩ : ∃ n, n = k.len := ⟨_, rfl⟩
  rw [← hn] at hl ⊢
  have HN := Lib.hid hn
  clear hK IH hR hn
  by_cases h0 : n = 0
  · subst h0
    have HF : Hid (R = (8, dyn)) := by
      unfold Hid
      rw [HR.out, ← HN.out]
      rfl
    have y1 := X0.out.cell
    have y1t := X0.out.thaw
    rw [hW0] at y1 y1t
    have HBB := B0.out
    rw [hW0] at HBB
    have HBB := Lib.hid HBB
    clear HK HI HR HN hW0
    go_enter Tryz.func101, Tryz.ntmps101
    go_wp2_with fail
    have y9 := (RowB.new w 25 tzc).cell
    refine bodyPost_ret (v := .tuple #[tz, .int .i64 8]) ?_ rfl (by rw [HF.out]; exact ToldQ.none (bel1 w _))
    simp [results, Tryz.results101, go_sem, y9]
    try first | rfl | exact ⟨rfl, rfl⟩
  have hn0 : ((n : Int) == 0) = false := by rw [beq_eq_false_iff_ne]; omega
  have HN0 := Lib.hid h0
  go_enter Tryz.func101, Tryz.ntmps101
  go_wp2_with fail
  rw [← hW0]
  clear hW0 h0
  go_loopg [4, 16] (n + 1) (fun kx s4 s16 wr => ∃ (i : Nat) (tl : List Ty) (cs : List Value), s16 = .int .i64 i ∧ n - i ≤ kx ∧ i ≤ n ∧ tl.length = i ∧ Hid (RT W0 wr (.slice none 0 0) s4 [] tl cs) ∧ Hid (R = fnEnd n (fin2 tl (tri (k.drop i)).2.2)))
  case atStart => exact ⟨0, [], [], rfl, by omega, by omega, rfl, RT.start _ _ (Below.refl _ _), by unfold Hid; rw [Fo.drop_zero, HR.out, HN.out]; rfl⟩
  case round =>
    obtain ⟨i, tl, cs, rfl, hkx, hin, htl, HRT, HEQ⟩ := hrel
    have Y0 := Lib.hid (X0.out.below HRT.out.be X0.out.lt)
    have HBw : Hid (Below w.heap.size w wr) := B0.out.trans (HRT.out.be.mono B0.out.size)
    have hRs : w.heap.size < W0.heap.size := by have := HW0.out; omega
    by_cases hi : i < n
    · have hil : (i : Int) < (n : Int) := by omega
      obtain ⟨h', kk, e⟩ := Fo.drop_cons k i (by rw [← HN.out]; exact hi)
      obtain ⟨g, o, A2, c2, rfl, hP, hg, hkk, c0, c1, c2', c3, c4', c5⟩ := KV.nth (HK.out.below HRT.out.be) e
      have HEQ1 : Hid (R = fnEnd n (fin2 tl (tri (Fo.cons h' kk (k.drop (i + 1)))).2.2)) := by
        unfold Hid
        rw [← e]
        exact HEQ.out
      obtain ⟨j, hj⟩ : ∃ j, j = i + 1 := ⟨_, rfl⟩
      rw [← hj] at HEQ1
      obtain ⟨kz, hkz⟩ : ∃ kz : Int, kz = (h'.kind : Int) := ⟨_, rfl⟩
      obtain ⟨nk, hnk⟩ : ∃ nk, nk = kk.len := ⟨_, rfl⟩
      obtain ⟨s, hs⟩ : ∃ s, s = h'.word := ⟨_, rfl⟩
      have HJ := Lib.hid hj
      have b1 := bel1 wr (.cells (ncc h' A2 kk.len c2) 71)
      have CC := Lib.hid (HI.out i h' kk _ e (wr.alloc (.cells (ncc h' A2 kk.len c2) 71)) P A2 c2 (hkk.below b1))
      obtain ⟨z, hz⟩ : ∃ z, z = (node h' kk.len (tri kk).2.1 (tri kk).2.2).1 := ⟨_, rfl⟩
      obtain ⟨t, ht⟩ : ∃ t, t = (node h' kk.len (tri kk).2.1 (tri kk).2.2).2 := ⟨_, rfl⟩
      have hzt : node h' kk.len (tri kk).2.1 (tri kk).2.2 = (z, t) := by rw [hz, ht]
      rw [hzt] at CC
      have HZ := Lib.hid hz
      have HT := Lib.hid ht
      have RA := Lib.hid (RowB.new wr 71 (ncc h' A2 kk.len c2))
      simp only [nvv, ncc] at CC RA b1
      rw [← hkz] at c0 CC RA b1
      rw [← hnk] at c5 CC RA b1
      rw [← hs] at c3 CC RA b1
      have y1 := RA.out.cell
      have HBv := Lib.hid b1
      have HBB := Lib.hid (HBw.out.trans (HBv.out.mono HBw.out.size))
      clear hkz hnk hs hkk hj e hzt hz ht hP b1
      go_wp2_with fail
      refine CC.out.mono ?_
      rintro e w2 ⟨An, cn, A4, c4, rfl, hti, hb2⟩
      have hrp0 := (HRT.out.below HBv.out).pend hb2 hti
      have HBw2 : Hid (Below w.heap.size w w2) := HBB.out.trans (hb2.mono HBB.out.size)
      obtain ⟨kt, nt, pt⟩ := t
      simp only
      obtain ⟨gb, hgb⟩ : ∃ gb, gb = w2.heap.size := ⟨_, rfl⟩
      obtain ⟨V, hV⟩ : ∃ V, V = w2.alloc (.cells (#[Value.int .i64 kt, .slice An nt.length cn, .slice A4 pt.length c4] : Array Value) 25) := ⟨_, rfl⟩
      have RB : Hid (RowB V gb 25 #[Value.int .i64 kt, .slice An nt.length cn, .slice A4 pt.length c4]) := by rw [hV, hgb]; exact RowB.new w2 25 _
      have Y2 : Hid (RowB V w.heap.size 25 tzc) := by rw [hV]; exact (((Y0.out.alloc _).below hb2 (Y0.out.alloc _).lt).alloc _)
      have HRP : Hid (RP W0 V (.slice none 0 0) u4 [] tl cs (.mk kt nt pt) An cn A4 c4) := by
        rw [hV]; exact hrp0.below (bel1 w2 _)
      have HBV : Hid (Below w.heap.size w V) := by rw [hV]; exact HBw2.out.trans ((bel1 w2 _).mono HBw2.out.size)
      have HV := Lib.hid hV
      have HGB := Lib.hid hgb
      clear hti hb2 hrp0 CC RA hgb c0 c1 c2' c3 c4' c5 y1
      by_cases hz0 : z = 0
      case neg =>
        have HF : Hid (R = (z, dyn)) := by
          unfold Hid
          rw [HEQ1.out, fin2_bad HN0.out (by rw [← HZ.out]; exact hz0), ← HZ.out]
        have y2 := Y2.out.cell
        have y2t := Y2.out.thaw
        rw [hV] at y2 y2t
        have hzb : (z == 0) = false := by simpa using hz0
        have HBV2 := HBV.out
        rw [hV] at HBV2
        have HBV3 := Lib.hid HBV2
        clear HRT HRP HEQ HEQ1 HI hV HBV2 HV
        obtain rfl : R = (z, dyn) := HF.out
        go_wp2_with fail
        refine bodyPost_ret (v := .tuple #[tz, .int .i64 z]) ?_ rfl (ToldQ.none (below_put3 HBV3.out (Nat.le_refl _) _ _ _))
        simp [results, Tryz.results101, go_sem, y2]
        try first | rfl | exact ⟨rfl, rfl⟩
      case pos =>
      have HEQ2 : Hid (R = fnEnd n (fin2 (tl ++ [.mk kt nt pt]) (tri (k.drop j)).2.2)) := by
        unfold Hid
        rw [HEQ1.out, fin2_next (by rw [← HZ.out]; exact hz0), HT.out]
      subst hz0
      have hln2 : tl.length ≤ 1000001 := by omega
      have hj := HJ.out
      have hjl : (tl ++ [Ty.mk kt nt pt]).length = j := by
        simp only [List.length_append, List.length_cons, List.length_nil]; omega
      have HJL := Lib.hid hjl
      have rb := RB.out.cell
      rw [HGB.out] at rb
      obtain ⟨iT, hiT, hzT, hsT, hbT⟩ := info_parts infoT
      have oc2 : ∀ u ∈ (#[Value.int .i64 kt, .slice An nt.length cn, .slice A4 pt.length c4] : Array Value).toList, u.oneCell' = true := by simp [Value.oneCell']
      have hbs : W0.heap.size ≤ V.heap.size := HRP.out.rt.be.size
      obtain ⟨gc, capb, w3, hr, hown, hgrow, hat, hlt⟩ := run_append_lies (P := Tryz.prog) (w := V.alloc (.cells (#[Value.int .i64 kt, .slice An nt.length cn, .slice A4 pt.length c4] : Array Value) 25)) 23 23 W0.heap.size 25 iT _ 3 56 Tryz.underlying23 hiT hzT hsT hbT rfl (by omega) u4 tl.length cs (HRP.out.below (bel1 V _)).rt.o2 ⟨V.heap.size, 0, none⟩ 1 1 (#[Value.int .i64 kt, .slice An nt.length cn, .slice A4 pt.length c4] : Array Value).toList (by rfl) (World.news_of_block (RowB.new V 25 #[Value.int .i64 kt, .slice An nt.length cn, .slice A4 pt.length c4])) oc2 (by omega) (by unfold maxLen; omega) (by omega) (HRP.out.below (bel1 V _)).rt.be.size _ rfl
      have HQ : Hid (RT W0 w3 (.slice none 0 0) (.slice (some ⟨gc, 0, none⟩) (tl.length + 1) capb) [] (tl ++ [Ty.mk kt nt pt]) (cs ++ tcs (.mk kt nt pt) An cn A4 c4)) := (HRP.out.below (bel1 V _)).app2 hown hgrow rfl hat
      have hs9 : (w2.alloc (.cells (#[Value.int .i64 kt, .slice An nt.length cn, .slice A4 pt.length c4] : Array Value) 25)).heap.size = w2.heap.size + 1 := by simp
      rw [hV] at rb hr
      rw [hs9] at hr
      clear hs9 HEQ HEQ1 HI hjl htl hown hgrow hat hlt hbs oc2 hiT hzT hsT hbT HV HRT HRP
      go_wp2_with (at_builtin; refine Lib.wpList_append_run _ rfl _ _ _ _ rfl _ _ rfl rfl _ _ hr ?_)
      all_goals
        go_roundg (n - j)
        case measure => omega
        case rel => exact ⟨j, tl ++ [Ty.mk kt nt pt], _, by rw [hj]; go_num, by omega, by omega, HJL.out, HQ, HEQ2⟩
    · have hil : ¬ (i : Int) < (n : Int) := by omega
      obtain rfl : i = n := by omega
      have HE2 : Hid (R = (0, .mk 4 [] tl)) := by
        unfold Hid
        rw [HEQ.out, Fo.drop_end k i (by rw [← HN.out]; exact Nat.le_refl _)]
        simp [tri, fin2, fnEnd, HN0.out]
      obtain ⟨An, cn, A4, c4, e1, e2, hnv, htv⟩ := HRT.out.out (fun s hs => by cases hs)
      obtain ⟨m, rfl⟩ : ∃ m, i = m + 1 := ⟨i - 1, by have := HN0.out; omega⟩
      have hlast : ∃ q, tl[m]? = some q := ⟨tl[m], List.getElem?_eq_getElem (by omega)⟩
      obtain ⟨q, hq⟩ := hlast
      obtain ⟨g, o, Bn, dn, B, d, rfl, hPg, hgl, hTI, d0, d1, d2⟩ := htv.nth hq
      rw [htl] at e2
      subst e2
      have htk : (tl.take m).length = m := by rw [List.length_take]; omega
      have hTV := htv.take m
      have hcap : m + 1 ≤ c4 := by have := htv.1; omega
      have i1 : (m : Int) < (m : Int) + 1 := by omega
      have i2 : (m : Int) ≤ (c4 : Int) := by omega
      have i3 : ¬ (m : Int) < 0 := by omega
      have i4 : ¬ (c4 : Int) < (m : Int) := by omega
      have i5 : m ≤ c4 := by omega
      have hcf : ∀ w' : World, Ap w.heap.size wr w' → Below wr.heap.size wr w' → Calls Tryz.prog 28 #[tv q Bn dn B d, .slice (some ⟨g, o, none⟩) m c4] w' (MadeQ (fun g => (W0.heap.size ≤ g ∨ W0.heap.size ≤ g) ∨ w'.heap.size ≤ g) (.mk 4 [] tl) w') := fun w' _ hb => by
        have := func_any w' q (tl.take m) (fun g => W0.heap.size ≤ g) (fun g => W0.heap.size ≤ g) Bn dn B d (some ⟨g, o, none⟩) c4 (hTI.below hb) (hTV.below hb) (by rw [htk]; omega)
        rw [htk] at this
        have e : fnOf (tl.take m) q = .mk 4 [] tl := by
          rw [fnOf]
          congr 1
          have h1 : tl.take (m + 1) = tl.take m ++ [q] := by rw [List.take_add_one, hq]; rfl
          rw [← h1, List.take_of_length_le (by omega)]
        rw [e] at this
        exact this
      have CF := Lib.hid hcf
      have hw0 := HW0.out
      have hww : W0.heap.size ≤ wr.heap.size := by have := Y0.out.lt; omega
      have HWW := Lib.hid hww
      have hne : g ≠ w.heap.size := by omega
      clear hnv htv hTV hTI hcf HEQ HI HRT hi htl htk hq hw0 hww hPg
      obtain ⟨kq, nq, pq⟩ := q
      simp only [tv, kind_mk, names_mk, parts_mk] at CF d0 d1 d2
      go_wp2_with fail
      go_upto_region 13 with fail
      refine wp_region_G (S := SG (fun w' => Ap w.heap.size wr w') 99 (fun _ => True) 99 (fun _ => True)) (by kernel_rfl) ⟨Ap.of (Below.drew (Below.refl _ _)), fun _ => trivial, fun _ => trivial⟩ (fun hS => ?_)
      refine wpG_take0 (i := 0) (v := ?v1) rfl (by kernel_rfl) (by kernel_rfl) (by kernel_rfl) (by decide) (by decide) (fun _ _ _ h => h) hS (Or.inl ⟨by rfl, ?hy1⟩) ?rest1
      case hy1 => (intro w' hw; go_simp; try with_reducible rfl)
      replace hS := SG.set (i := 0) (by decide) (by decide) hS
      try simp only [Act.put, List.setIfInBounds_toArray, List.set_cons_zero, List.set_cons_succ]
      refine wpG_take0 (i := 1) (v := ?v2) rfl (by kernel_rfl) (by kernel_rfl) (by kernel_rfl) (by decide) (by decide) (fun _ _ _ h => h) hS (Or.inl ⟨by rfl, ?hy2⟩) ?rest2
      case hy2 => (intro w' hw; go_simp; try with_reducible rfl)
      replace hS := SG.set (i := 1) (by decide) (by decide) hS
      try simp only [Act.put, List.setIfInBounds_toArray, List.set_cons_zero, List.set_cons_succ]
      refine wpG_take0 (i := 2) (v := ?v3) rfl (by kernel_rfl) (by kernel_rfl) (by kernel_rfl) (by decide) (by decide) (fun _ _ _ h => h) hS (Or.inl ⟨by rfl, ?hy3⟩) ?rest3
      case hy3 => (intro w' hw; go_simp; try with_reducible rfl)
      replace hS := SG.set (i := 2) (by decide) (by decide) hS
      try simp only [Act.put, List.setIfInBounds_toArray, List.set_cons_zero, List.set_cons_succ]
      refine wpG_take0 (i := 3) (v := ?v4) rfl (by kernel_rfl) (by kernel_rfl) (by kernel_rfl) (by decide) (by decide) (fun _ _ _ h => h) hS (Or.inl ⟨by rfl, ?hy4⟩) ?rest4
      case hy4 => (intro w' hw; have v0 := (hw.cell (o := o + m * 3) hgl hne).trans d0; have v1 := (hw.cell (o := o + m * 3 + 1) hgl hne).trans d1; have v2 := (hw.cell (o := o + m * 3 + 2) hgl hne).trans d2; go_simp; try with_reducible rfl)
      replace hS := SG.set (i := 3) (by decide) (by decide) hS
      try simp only [Act.put, List.setIfInBounds_toArray, List.set_cons_zero, List.set_cons_succ]
      refine wpG_take0 (i := 4) (v := ?v5) rfl (by kernel_rfl) (by kernel_rfl) (by kernel_rfl) (by decide) (by decide) (fun _ _ _ h => h) hS (Or.inl ⟨by rfl, ?hy5⟩) ?rest5
      case hy5 => (intro w' hw; go_simp; try with_reducible rfl)
      replace hS := SG.set (i := 4) (by decide) (by decide) hS
      try simp only [Act.put, List.setIfInBounds_toArray, List.set_cons_zero, List.set_cons_succ]
      refine wpG_take0 (i := 5) (v := ?v6) rfl (by kernel_rfl) (by kernel_rfl) (by kernel_rfl) (by decide) (by decide) (fun _ _ _ h => h) hS (Or.inl ⟨by rfl, ?hy6⟩) ?rest6
      case hy6 => (intro w' hw; go_simp; try with_reducible rfl)
      replace hS := SG.set (i := 5) (by decide) (by decide) hS
      try simp only [Act.put, List.setIfInBounds_toArray, List.set_cons_zero, List.set_cons_succ]
      refine wpG_take0 (i := 6) (v := ?v7) rfl (by kernel_rfl) (by kernel_rfl) (by kernel_rfl) (by decide) (by decide) (fun _ _ _ h => h) hS (Or.inl ⟨by rfl, ?hy7⟩) ?rest7
      case hy7 => (intro w' hw; go_simp; try with_reducible rfl)
      replace hS := SG.set (i := 6) (by decide) (by decide) hS
      try simp only [Act.put, List.setIfInBounds_toArray, List.set_cons_zero, List.set_cons_succ]
      refine wpG_ready (rs := [7]) (by kernel_rfl) (by simp) ?_
      refine RG.cons rfl rfl (fun K hK => ?_) RG.nil
      go_simp
      refine (CF.out _ (Ap.of (Below.drew (Below.refl _ _))) (Below.drew (Below.refl _ _))).mono ?_
      rintro e xa ⟨hxa, Cn, fn, C, f, rfl, htx⟩
      go_wp2_with fail
      have hda := (Below.drew (Below.refl wr.heap.size wr)).trans hxa
      have HDA := Lib.hid hda
      have HTX := Lib.hid htx
      have Y9 := Lib.hid (Y0.out.below hda Y0.out.lt)
      clear hxa htx
      refine hK.out _ _ ⟨Ap.of hda, fun _ => trivial, fun _ => trivial⟩ (fun hS => ?_)
      clear hK K
      try simp only [Act.put, List.setIfInBounds_toArray, List.set_cons_zero, List.set_cons_succ]
      have y9 := Y9.out.cell
      have y9t := Y9.out.thaw
      clear hda
      refine wpG_ready (rs := [8]) (by kernel_rfl) (by simp) ?_
      refine RG.cons rfl rfl (fun K hK => ?_) RG.nil
      go_simp
      refine hK.out _ _ ⟨(Ap.of HDA.out).put3 _ _ _, fun _ => trivial, fun _ => trivial⟩ (fun hS => ?_)
      clear hK K
      try simp only [Act.put, List.setIfInBounds_toArray, List.set_cons_zero, List.set_cons_succ]
      refine wpG_take0 (i := 9) (v := ?v8) rfl (by kernel_rfl) (by kernel_rfl) (by kernel_rfl) (by decide) (by decide) (fun _ _ _ h => h) hS (Or.inl ⟨by rfl, ?hy8⟩) ?rest8
      case hy8 => (intro w' hw; go_simp; try with_reducible rfl)
      replace hS := SG.set (i := 9) (by decide) (by decide) hS
      try simp only [Act.put, List.setIfInBounds_toArray, List.set_cons_zero, List.set_cons_succ]
      refine wpG_done (by kernel_rfl) ?_ _
      have HBX := Lib.hid (HBw.out.trans (HDA.out.mono HBw.out.size))
      have hw0 := HW0.out
      have hww := HWW.out
      clear hS CF y9t
      obtain rfl : R = (0, .mk 4 [] tl) := HE2.out
      go_wp2_with fail
      refine bodyPost_ret (v := .tuple #[tv (.mk 4 [] tl) Cn fn C f, .int .i64 0]) ?_ rfl ⟨Cn, fn, C, f, rfl, HTX.out.keep (by simp [World.setCell]) (fun x hx hl => ?_), below_put3 HBX.out (Nat.le_refl _) _ _ _⟩
      · simp [results, Tryz.results101, go_sem, y9]
        try first | rfl | exact ⟨rfl, rfl⟩
      · have hsd : wr.drew.heap.size = wr.heap.size := rfl
        have hx2 : W0.heap.size ≤ x := by omega
        have hne : x ≠ w.heap.size := by omega
        exact ⟨(Below.heap_setCell _ _ _ x hne).trans ((Below.heap_setCell _ _ _ x hne).trans (Below.heap_setCell _ _ _ x hne)), by omega⟩
theorem told_any (k : Fo) (hf : fok k) : TK k := (told_all (fun k _ hl ht w P A cap hK => told_fn w k P A cap hK hl ht) k hf).1
end Tm
end Go.Proofs.YtifkjngclkklfaaGreatDoor
