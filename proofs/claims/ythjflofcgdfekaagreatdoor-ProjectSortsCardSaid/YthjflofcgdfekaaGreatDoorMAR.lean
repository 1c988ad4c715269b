import Derived.Test.YthjflofcgdfekaaGreatDoorMAN
import Derived.Test.YthjflofcgdfekaaGreatDoorMAQ
import Derived.Test.YthjflofcgdfekaaGreatDoorMAK
import Derived.Lib.DecodeN
import Derived.Lib.RuneBytes
import Derived.Test.YthjflofcgdfekaaGreatDoorBase
namespace Go.Proofs.YthjflofcgdfekaaGreatDoor
open Go.RowKit Go.Sort Go.Proofs Go.Shelf
namespace Sd
open Sc
open Sb (RowAt)
abbrev Dg := ByteArray × Int × Int
def dgC (x : Dg) : List Value := [.string x.1, .int .i64 x.2.1, .int .i64 x.2.2]
theorem dgC_len (x : Dg) : (dgC x).length = 3 := rfl
def tagF : Nat → List Dg → List De
  | _, [] => []
  | i, x :: l => ⟨x.1, x.2.1, x.2.2, i⟩ :: tagF (i + 1) l
theorem tagF_len : ∀ (i : Nat) (l : List Dg), (tagF i l).length = l.length
  | _, [] => rfl
  | i, _ :: l => by rw [tagF, List.length_cons, List.length_cons, tagF_len]
theorem tagF_get : ∀ (i : Nat) (l : List Dg) (k : Nat) (x : Dg), l[k]? = some x → (tagF i l)[k]? = some ⟨x.1, x.2.1, x.2.2, i + k⟩
  | _, [], k, x, h => by simp at h
  | i, y :: l, 0, x, h => by
    simp only [List.getElem?_cons_zero, Option.some.injEq] at h
    subst h
    rfl
  | i, y :: l, k + 1, x, h => by
    rw [tagF, List.getElem?_cons_succ, tagF_get (i + 1) l k x (by simpa using h), show i + 1 + k = i + (k + 1) by omega]
def strip (x : De) : Dg := (x.m, x.a, x.c)
def StSort (l l' : List Dg) : Prop := ∃ os : List De, os.Perm (tagF 0 l) ∧ os.Pairwise (fun x y => LT x y = true) ∧ l' = os.map strip
theorem pw_uniq : ∀ {l m : List De}, l.Perm m → l.Pairwise (fun x y => LT x y = true) → m.Pairwise (fun x y => LT x y = true) → l = m
  | [], m, h, _, _ => (List.nil_perm.1 h).symm
  | x :: l, [], h, _, _ => absurd h.length_eq (by simp)
  | x :: l, y :: m, h, h1, h2 => by
    obtain ⟨a1, a2⟩ := List.pairwise_cons.1 h1
    obtain ⟨b1, b2⟩ := List.pairwise_cons.1 h2
    have e : x = y := by
      have hx : x ∈ y :: m := h.subset List.mem_cons_self
      have hy : y ∈ x :: l := h.symm.subset List.mem_cons_self
      rcases List.mem_cons.1 hx with e | hx
      · exact e
      · rcases List.mem_cons.1 hy with e | hy
        · exact e.symm
        · have := lt_asymm (a1 y hy)
          rw [b1 x hx] at this
          cases this
    subst e
    rw [pw_uniq (List.Perm.cons_inv h) a2 b2]
theorem StSort.uniq {l a b : List Dg} (h : StSort l a) (k : StSort l b) : a = b := by
  obtain ⟨o1, p1, w1, rfl⟩ := h
  obtain ⟨o2, p2, w2, rfl⟩ := k
  rw [pw_uniq (p1.trans p2.symm) w1 w2]
theorem StSort.len {l a : List Dg} (h : StSort l a) : a.length = l.length := by
  obtain ⟨o, p, _, rfl⟩ := h
  rw [List.length_map, p.length_eq, tagF_len]
theorem StSort.nil : StSort [] [] := ⟨[], List.Perm.refl _, List.Pairwise.nil, rfl⟩
theorem swk_fr {w0 W : World} {blk off : Nat} {dk : Array De} (S : SWK enc3 3 w0 blk off dk W) : W.os = w0.os ∧ W.tape = w0.tape ∧ W.output = w0.output ∧ w0.heap.size ≤ W.heap.size ∧ ∀ k, k < w0.heap.size → k ≠ blk → W.heap[k]? = w0.heap[k]? := by
  obtain ⟨n, os, rfl⟩ := S
  refine ⟨rfl, rfl, rfl, ?_, fun k hk hn => ?_⟩
  · unfold sortWorldK; rw [size_grow, size_putRowK]; show w0.heap.size ≤ w0.heap.size + _; omega
  · unfold sortWorldK putRowK putRow mapBlock Go.Sort.grow Go.Sort.ahead
    have h1 : k < (w0.heap.modify blk (onCells (putCells id off (flatK enc3 3 dk)))).size := by simp; omega
    simp only [Array.getElem?_append, h1, if_true, Array.getElem?_modify]
    rw [if_neg (by omega)]
theorem own_holds {w : World} {base g cap : Nat} {l : List Dg} (h : w.ownsRow base 75 3 (.slice (some ⟨g, 0, none⟩) l.length cap) l.length (l.flatMap dgC)) : HoldsK enc3 3 w g 0 (tagF 0 l).toArray := fun t ht => by
  rw [size_flatK] at ht
  have ht' : t < l.length * 3 := by simpa [tagF_len] using ht
  rw [get_flatK _ _ _ _ ht]
  have hi : t / 3 < l.length := by omega
  obtain ⟨x, hx⟩ : ∃ x, l[t / 3]? = some x := ⟨l[t / 3], List.getElem?_eq_getElem hi⟩
  have e : (tagF 0 l).toArray[t / 3]! = ⟨x.1, x.2.1, x.2.2, 0 + t / 3⟩ := by
    have hh := tagF_get 0 l _ _ hx
    have hl : t / 3 < (tagF 0 l).toArray.size := by simpa [tagF_len] using hi
    rw [getElem!_pos (tagF 0 l).toArray _ hl, ← Option.some.injEq, ← hh]
    simp
  rw [e]
  obtain ⟨g', c', e2, _, _, _, hc⟩ := row_get h (fun _ => rfl) hx rfl
  injection e2 with e2 _ _
  injection e2 with e2
  injection e2 with e2
  subst e2
  have hr : t % 3 = 0 ∨ t % 3 = 1 ∨ t % 3 = 2 := by omega
  refine ⟨?_, h.frozenAt (0 + t)⟩
  rcases hr with hr | hr | hr
  · have := hc 0 (.string x.1) rfl
    rw [hr, show 0 + t = t / 3 * 3 + 0 by omega, this]
    rfl
  · have := hc 1 (.int .i64 x.2.1) rfl
    rw [hr, show 0 + t = t / 3 * 3 + 1 by omega, this]
    rfl
  · have := hc 2 (.int .i64 x.2.2) rfl
    rw [hr, show 0 + t = t / 3 * 3 + 2 by omega, this]
    rfl
theorem tag_tied (l : List Dg) : Tied (tagF 0 l).toArray := by
  have key : ∀ k, k < (tagF 0 l).toArray.size → (at_ (tagF 0 l).toArray k).t = k := fun k hk => by
    have hk' : k < l.length := by simpa [tagF_len] using hk
    have hh := tagF_get 0 l k _ (List.getElem?_eq_getElem hk')
    unfold at_
    rw [getElem!_pos (tagF 0 l).toArray _ hk]
    have e : (tagF 0 l).toArray[k] = ⟨l[k].1, l[k].2.1, l[k].2.2, 0 + k⟩ := by
      rw [← Option.some.injEq, ← hh]
      simp
    rw [e]
    simp
  intro i j hij hj _
  rw [key i (by omega), key j hj]
  exact hij
set_option maxHeartbeats 2000000 in
set_option maxRecDepth 100000 in
theorem stable_none (A : Option Addr) (cap : Nat) (fv : Value) (w : World) : Calls Tryz.prog 99 #[.slice A 0 cap, .int .i64 0, fv] w fun e w' => e = .returned (.tuple #[]) ∧ w' = w := by
  have h68 : ∀ w, Calls Tryz.prog 130 #[.slice A 0 cap, .int .i64 0, .int .i64 0, fv] w fun e w' => e = .returned (.tuple #[]) ∧ w' = w := fun w => by
    go_enter Tryz.func130, Tryz.ntmps130
    go_wp2_with fail
    refine wp_loop_rounds 1 ?_
    rw [rounds_succ]
    go_wp2
    go_end0
    exact ⟨rfl, rfl⟩
  go_enter Tryz.func99, Tryz.ntmps99
  go_wp2_with fail
  refine wp_loop_rounds 1 ?_
  rw [rounds_succ]
  go_wp2_with (go_at_call 130; refine (h68 _).mono ?_; rintro e w' ⟨rfl, rfl⟩)
  refine wp_loop_rounds 1 ?_
  rw [rounds_succ]
  go_wp2
  go_end0
  exact ⟨rfl, rfl⟩
set_option maxHeartbeats 4000000 in
set_option maxRecDepth 100000 in
theorem sortDiag_any {w : World} {B n c : Nat} {A : Option Addr} {l : List Dg} (h : w.ownsRow B 75 3 (.slice A n c) n (l.flatMap dgC)) (hn : n = l.length) (hl : l.length ≤ 1000000) :
    Calls Tryz.prog 61 #[.slice A n c, .func (.func 62) #[] #[]] w fun e w' => e = .returned (.tuple #[]) ∧ (∃ l', StSort l l' ∧ RowAt w' B w'.heap.size dgC 3 A l') ∧ w'.os = w.os ∧ w'.tape = w.tape ∧ w'.output = w.output ∧ w.heap.size ≤ w'.heap.size ∧ ∀ k, k < w.heap.size → (Value.slice A n c).ownBlock ≠ some k → w'.heap[k]? = w.heap[k]? := by
  subst hn
  by_cases h0 : l = []
  · subst h0
    simp only [List.length_nil]
    go_enter Tryz.func61, Tryz.ntmps61
    go_wp2_with (go_at_call 99; refine (stable_none _ _ _ _).mono ?_; rintro e w' ⟨rfl, rfl⟩)
    go_end0
    exact ⟨rfl, ⟨[], .nil, fun h => by simp at h⟩, rfl, rfl, rfl, Nat.le_refl _, fun _ _ _ => rfl⟩
  · have hlen : 0 < l.length := List.length_pos_iff.2 h0
    obtain ⟨x, hx⟩ : ∃ x, l[0]? = some x := ⟨l[0], List.getElem?_eq_getElem hlen⟩
    obtain ⟨g, c', e1, hc1, hg, hob, _⟩ := row_get h (fun _ => rfl) hx rfl
    rw [hob]
    injection e1 with e1 _ e3
    subst e1 e3
    have HLO : Hid (B ≤ g) := (h.lt g hob).1
    have hH := own_holds h
    have R : RowK enc3 3 w g 0 (tagF 0 l).toArray := ⟨enc3_len, enc3_one, hH, hg⟩
    have e0 : (tagF 0 l).toArray.size = l.length := by simp [tagF_len]
    have cc := stable_any g 0 c (tagF 0 l).toArray (tagF 0 l).toArray w w R rfl (SWK.start hH) (by rw [e0]; exact hl) (tag_tied l)
    rw [e0] at cc
    have C := Lib.hid cc
    have RR := Lib.hid R
    have E0 := Lib.hid e0
    obtain ⟨nn, hnn⟩ : ∃ nn, nn = l.length := ⟨_, rfl⟩
    have HNN := Lib.hid hnn
    rw [← hnn] at C ⊢
    clear cc R hH h hx e0 hlen hc1 hnn hob hl
    go_enter Tryz.func61, Tryz.ntmps61
    go_wp2_with fail
    refine C.out.mono ?_
    rintro e w2 ⟨rfl, d', s2, z2, p2, t2, x2⟩
    have S2 : Aside _ := s2
    have Z2 := Lib.hid z2
    have P2 := Lib.hid p2
    have X2 := Lib.hid x2
    have T2 := Lib.hid t2
    clear s2 z2 p2 x2 t2 C
    go_wp2_with fail
    go_end0
    have Z : d'.size = l.length := by rw [Z2.out, HNN.out]
    have S2' : SWK enc3 3 w g 0 d' w2 := S2.out
    refine ⟨rfl, ⟨d'.toList.map strip, ⟨d'.toList, ?_, ?_, rfl⟩, ?_⟩, ?_⟩
    · have h1 := P2.out.2.2
      have h2 : d'.extract 0 nn = d' := by rw [HNN.out, ← Z]; simp
      have h3 : (tagF 0 l).toArray.extract 0 nn = (tagF 0 l).toArray := by rw [HNN.out, ← E0.out]; simp
      rw [h2, h3] at h1
      simpa using h1
    · rw [List.pairwise_iff_getElem]
      intro i j hi hj hij
      have hj' : j < d'.size := by simpa using hj
      have h1 := X2.out i j (Nat.zero_le _) hij (by rw [HNN.out, ← Z]; exact hj')
      have h2 := T2.out i j hij hj'
      have h3 := ord.neg (at_ d' i) (at_ d' j)
      unfold at_ at h1 h2 h3
      rw [getElem!_pos d' j hj', getElem!_pos d' i (by omega)] at h1 h2 h3
      rw [show d'.toList[i] = d'[i]'(by omega) from by simp, show d'.toList[j] = d'[j] from by simp]
      unfold LT at *
      simp only [decide_eq_true_iff, decide_eq_false_iff_not] at *
      omega
    · intro _
      refine ⟨g, rfl, HLO.out, S2'.lt RR.out.hblk, fun i y hy j u hj => ?_⟩
      have hi : i < d'.size := by
        have := (List.getElem?_eq_some_iff.1 hy).1
        simpa using this
      obtain ⟨⟨k1, k2, k3⟩, _⟩ := swk_cells S2' RR.out (by rw [Z, E0.out]) i hi
      have e : y = strip d'[i]! := by
        rw [getElem!_pos d' i hi]
        rw [List.getElem?_map, List.getElem?_eq_getElem (by simpa using hi)] at hy
        simpa using hy.symm
      subst e
      rcases j with _ | _ | _ | j
      · simp only [strip, dgC, List.getElem?_cons_zero, Option.some.injEq] at hj
        subst hj
        simpa using k1
      · simp only [strip, dgC, Nat.zero_add, List.getElem?_cons_succ, List.getElem?_cons_zero, Option.some.injEq] at hj
        subst hj
        simpa using k2
      · simp only [strip, dgC, Nat.zero_add, Nat.reduceAdd, List.getElem?_cons_succ, List.getElem?_cons_zero, Option.some.injEq] at hj
        subst hj
        simpa using k3
      · simp [dgC] at hj
    · obtain ⟨a1, a2, a3, a4, a5⟩ := swk_fr S2'
      exact ⟨a1, a2, a3, a4, fun k hk hne => a5 k hk (fun e => hne (by rw [e]))⟩
end Sd
end Go.Proofs.YthjflofcgdfekaaGreatDoor
namespace Go.Proofs.YthjflofcgdfekaaGreatDoor
open Go.RowKit Go.Sort Go.Proofs
namespace Og
open Od
variable {D : Type} {c : D → D → Int}
def tagG : Nat → List D → List (D × Nat)
  | _, [] => []
  | i, x :: l => (x, i) :: tagG (i + 1) l
theorem tagG_len : ∀ (i : Nat) (l : List D), (tagG i l).length = l.length
  | _, [] => rfl
  | i, _ :: l => by rw [tagG, List.length_cons, List.length_cons, tagG_len]
theorem tagG_fst : ∀ (i : Nat) (l : List D), (tagG i l).map Prod.fst = l
  | _, [] => rfl
  | i, x :: l => by rw [tagG, List.map_cons, tagG_fst]
theorem tagG_app : ∀ (i : Nat) (l m : List D), tagG i (l ++ m) = tagG i l ++ tagG (i + l.length) m
  | i, [], m => by simp [tagG]
  | i, x :: l, m => by rw [List.cons_append, tagG, tagG_app (i + 1) l m, tagG, List.cons_append, List.length_cons, show i + 1 + l.length = i + (l.length + 1) by omega]
theorem tagG_lt : ∀ (i : Nat) (l : List D) (y : D × Nat), y ∈ tagG i l → y.2 < i + l.length
  | _, [], _, h => by cases h
  | i, x :: l, y, h => by
    rw [tagG] at h
    rw [List.length_cons]
    rcases List.mem_cons.1 h with rfl | h
    · show i < _; omega
    · have := tagG_lt (i + 1) l y h; omega
def LTg (c : D → D → Int) (x y : D × Nat) : Prop := c x.1 y.1 < 0 ∨ (c x.1 y.1 = 0 ∧ x.2 < y.2)
theorem ltg_asymm (hc : Ord3 c) {x y : D × Nat} (h : LTg c x y) : ¬ LTg c y x := by
  have := hc.neg x.1 y.1
  unfold LTg at *
  omega
def StG (c : D → D → Int) (l l' : List D) : Prop := ∃ os : List (D × Nat), os.Perm (tagG 0 l) ∧ os.Pairwise (LTg c) ∧ l' = os.map Prod.fst
theorem pw_uniq (hc : Ord3 c) : ∀ {l m : List (D × Nat)}, l.Perm m → l.Pairwise (LTg c) → m.Pairwise (LTg c) → l = m
  | [], m, h, _, _ => (List.nil_perm.1 h).symm
  | x :: l, [], h, _, _ => absurd h.length_eq (by simp)
  | x :: l, y :: m, h, h1, h2 => by
    obtain ⟨a1, a2⟩ := List.pairwise_cons.1 h1
    obtain ⟨b1, b2⟩ := List.pairwise_cons.1 h2
    have e : x = y := by
      have hx : x ∈ y :: m := h.subset List.mem_cons_self
      have hy : y ∈ x :: l := h.symm.subset List.mem_cons_self
      rcases List.mem_cons.1 hx with e | hx
      · exact e
      · rcases List.mem_cons.1 hy with e | hy
        · exact e.symm
        · exact absurd (b1 x hx) (ltg_asymm hc (a1 y hy))
    subst e
    rw [pw_uniq hc (List.Perm.cons_inv h) a2 b2]
theorem StG.uniq (hc : Ord3 c) {l a b : List D} (h : StG c l a) (k : StG c l b) : a = b := by
  obtain ⟨o1, p1, w1, rfl⟩ := h
  obtain ⟨o2, p2, w2, rfl⟩ := k
  rw [pw_uniq hc (p1.trans p2.symm) w1 w2]
theorem StG.len {l a : List D} (h : StG c l a) : a.length = l.length := by
  obtain ⟨o, p, _, rfl⟩ := h
  rw [List.length_map, p.length_eq, tagG_len]
theorem StG.perm {l a : List D} (h : StG c l a) : a.Perm l := by
  obtain ⟨o, p, _, rfl⟩ := h
  have := p.map Prod.fst
  rw [tagG_fst] at this
  exact this
theorem StG.nil : StG c [] [] := ⟨[], List.Perm.refl _, List.Pairwise.nil, rfl⟩
def posI (c : D → D → Int) (l : List D) (x : D) : Nat → Nat
  | 0 => 0
  | p + 1 => match l[p]? with
    | some y => if c x y < 0 then posI c l x p else p + 1
    | none => p + 1
theorem posI_le (l : List D) (x : D) : ∀ a, posI c l x a ≤ a
  | 0 => Nat.le_refl _
  | a + 1 => by
    rw [posI]
    split
    · split
      · have := posI_le l x a; omega
      · exact Nat.le_refl _
    · exact Nat.le_refl _
theorem posI_step {l : List D} {x y : D} {p : Nat} (h : l[p]? = some y) : posI c l x (p + 1) = if c x y < 0 then posI c l x p else p + 1 := by
  rw [posI, h]
theorem posI_gt (l : List D) (x : D) : ∀ a i y, a ≤ l.length → posI c l x a ≤ i → i < a → l[i]? = some y → c x y < 0
  | 0, _, _, _, _, h, _ => by omega
  | a + 1, i, y, ha, h1, h2, hy => by
    obtain ⟨z, hz⟩ : ∃ z, l[a]? = some z := ⟨l[a], List.getElem?_eq_getElem ha⟩
    rw [posI_step hz] at h1
    split at h1
    · rename_i hc
      by_cases e : i = a
      · rw [e, hz] at hy
        cases hy
        exact hc
      · exact posI_gt l x a i y (by omega) h1 (by omega) hy
    · omega
theorem posI_at (l : List D) (x : D) : ∀ a y, a ≤ l.length → 0 < posI c l x a → l[posI c l x a - 1]? = some y → 0 ≤ c x y
  | 0, _, _, h, _ => by rw [posI] at h; omega
  | a + 1, y, ha, h, hy => by
    obtain ⟨z, hz⟩ : ∃ z, l[a]? = some z := ⟨l[a], List.getElem?_eq_getElem ha⟩
    rw [posI_step hz] at h hy
    split at h
    · rename_i hc
      rw [if_pos hc] at hy
      exact posI_at l x a y (by omega) h hy
    · rename_i hc
      rw [if_neg hc] at hy
      rw [show a + 1 - 1 = a from rfl, hz] at hy
      cases hy
      omega
def insI (c : D → D → Int) (l : List D) (x : D) : List D := l.take (posI c l x l.length) ++ [x] ++ l.drop (posI c l x l.length)
def sortI (c : D → D → Int) : List D → List D → List D
  | acc, [] => acc
  | acc, x :: l => sortI c (insI c acc x) l
theorem st_ins (hc : Ord3 c) {l l' : List D} (h : StG c l l') (x : D) : StG c (l ++ [x]) (insI c l' x) := by
  obtain ⟨os, p, w, rfl⟩ := h
  obtain ⟨n, hn⟩ : ∃ n, n = posI c (os.map Prod.fst) x (os.map Prod.fst).length := ⟨_, rfl⟩
  have key : ∀ i (hi : i < os.length), (os.map Prod.fst)[i]? = some os[i].1 := fun i hi => by
    rw [List.getElem?_map, List.getElem?_eq_getElem hi]; rfl
  have hle : n ≤ os.length := by rw [hn]; have := posI_le (c := c) (os.map Prod.fst) x (os.map Prod.fst).length; simpa using this
  have hgt : ∀ i (hi : i < os.length), n ≤ i → c x os[i].1 < 0 := fun i hi h1 =>
    posI_gt (os.map Prod.fst) x (os.map Prod.fst).length i _ (Nat.le_refl _) (by rw [← hn]; exact h1) (by simpa using hi) (key i hi)
  have hat : ∀ i (hi : i < os.length), i < n → c os[i].1 x ≤ 0 := fun i hi h1 => by
    have h0 := posI_at (os.map Prod.fst) x (os.map Prod.fst).length (os[n - 1]'(by omega)).1 (Nat.le_refl _) (by rw [← hn]; omega) (by rw [← hn]; exact key (n - 1) (by omega))
    have hneg := hc.neg x (os[n - 1]'(by omega)).1
    by_cases e : i = n - 1
    · subst e; omega
    · have := List.pairwise_iff_getElem.1 w i (n - 1) hi (by omega) (by omega)
      unfold LTg at this
      exact (hc.tr _ (os[n - 1]'(by omega)).1 _ (by omega) (by omega)).1
  have htg : ∀ y ∈ os, y.2 < l.length := fun y hy => by have := tagG_lt 0 l y (p.subset hy); omega
  refine ⟨os.take n ++ [(x, l.length)] ++ os.drop n, ?_, ?_, ?_⟩
  · rw [tagG_app]
    have e : tagG (0 + l.length) [x] = [(x, l.length)] := by rw [tagG, tagG, Nat.zero_add]
    rw [e]
    have h1 : (os.take n ++ [(x, l.length)] ++ os.drop n).Perm (os ++ [(x, l.length)]) := by
      rw [List.append_assoc]
      refine (List.Perm.append_left _ List.perm_append_comm).trans ?_
      rw [← List.append_assoc, List.take_append_drop]
    exact h1.trans (List.Perm.append_right _ p)
  · rw [List.append_assoc, List.pairwise_append]
    refine ⟨w.sublist (List.take_sublist _ _), ?_, fun y hy z hz => ?_⟩
    · rw [List.singleton_append, List.pairwise_cons]
      refine ⟨fun z hz => ?_, w.sublist (List.drop_sublist _ _)⟩
      obtain ⟨i, hi, rfl⟩ := List.getElem_of_mem hz
      rw [List.getElem_drop]
      exact .inl (hgt (n + i) (by simp at hi; omega) (by omega))
    · obtain ⟨i, hi, rfl⟩ := List.getElem_of_mem hy
      have hi' : i < n ∧ i < os.length := by simp at hi; omega
      rw [List.getElem_take]
      have ha := hat i hi'.2 hi'.1
      rw [List.singleton_append] at hz
      rcases List.mem_cons.1 hz with rfl | hz
      · have ht := htg _ (List.getElem_mem hi'.2)
        unfold LTg
        simp only
        omega
      · obtain ⟨j, hj, rfl⟩ := List.getElem_of_mem hz
        rw [List.getElem_drop]
        exact List.pairwise_iff_getElem.1 w i (n + j) hi'.2 (by simp at hj; omega) (by omega)
  · unfold insI
    rw [← hn]
    simp [List.map_append, List.map_take, List.map_drop]
theorem sortI_go (hc : Ord3 c) : ∀ (l pre acc : List D), StG c pre acc → StG c (pre ++ l) (sortI c acc l)
  | [], pre, acc, h => by rw [List.append_nil, sortI]; exact h
  | x :: l, pre, acc, h => by
    rw [sortI, show pre ++ x :: l = (pre ++ [x]) ++ l by simp]
    exact sortI_go hc l _ _ (st_ins hc h x)
theorem sortI_st (hc : Ord3 c) (l : List D) : StG c l (sortI c [] l) := sortI_go hc l [] [] StG.nil
end Og
end Go.Proofs.YthjflofcgdfekaaGreatDoor
namespace Go.Proofs.YthjflofcgdfekaaGreatDoor
def sg (b : UInt8) : UInt8 := if b = 10 then 110 else if b = 9 then 116 else if b = 34 then 34 else if b = 92 then 92 else 0
def sb (b : UInt8) : Bool := b == 10 || b == 9 || b == 34 || b == 92
def esc (b : UInt8) : List UInt8 := if sb b = true then [92, sg b] else [b]
def mn (b : UInt8) : UInt8 := if b = 110 then 10 else if b = 116 then 9 else if b = 34 then 34 else if b = 92 then 92 else 0
def mb (b : UInt8) : Bool := b == 110 || b == 116 || b == 34 || b == 92
def um : List UInt8 → Bool → Option (List UInt8)
  | [], sl => if sl = true then none else some []
  | b :: t, true => if mb b = true then (um t false).map (mn b :: ·) else none
  | b :: t, false => if b = 92 then um t true else if b < 32 ∨ b = 34 then none else (um t false).map (b :: ·)
def unq (l : List UInt8) : Option (List UInt8) := if l.length < 2 ∨ l.getD 0 0 ≠ 34 ∨ l.getD (l.length - 1) 0 ≠ 34 then none else um ((l.drop 1).take (l.length - 2)) false
theorem flat_snoc (l : List UInt8) (b : UInt8) : (l ++ [b]).flatMap esc = l.flatMap esc ++ esc b := by simp
theorem flat_len : ∀ l : List UInt8, (l.flatMap esc).length ≤ 2 * l.length
  | [] => by simp
  | b :: l => by
    have := flat_len l
    simp only [List.flatMap_cons, List.length_append, List.length_cons]
    have h : (esc b).length ≤ 2 := by unfold esc; split <;> simp
    omega
theorem um_end (sl : Bool) : um [] sl = if sl = true then none else some [] := by rw [um]
theorem um_sign {b : UInt8} (t : List UInt8) (h : mb b = true) : um (b :: t) true = (um t false).map (mn b :: ·) := by rw [um, if_pos h]
theorem um_nosign {b : UInt8} (t : List UInt8) (h : mb b = false) : um (b :: t) true = none := by rw [um, if_neg (by simp [h])]
theorem um_slash (t : List UInt8) : um (92 :: t) false = um t true := by rw [um, if_pos rfl]
theorem um_low {b : UInt8} (t : List UInt8) (h0 : b ≠ 92) (h : b < 32 ∨ b = 34) : um (b :: t) false = none := by rw [um, if_neg h0, if_pos h]
theorem um_byte {b : UInt8} (t : List UInt8) (h0 : b ≠ 92) (h : ¬ (b < 32 ∨ b = 34)) : um (b :: t) false = (um t false).map (b :: ·) := by rw [um, if_neg h0, if_neg h]
def low (l : List UInt8) : Bool := l.any fun b => decide (b < 32) && (b != 9) && (b != 10)
theorem um_pre {W O : List UInt8} {sl : Bool} {m : UInt8} {t : List UInt8} {b : UInt8} (h : um W false = (um (b :: t) sl).map (O ++ ·)) (he : um (b :: t) sl = (um t false).map (m :: ·)) : um W false = (um t false).map ((O ++ [m]) ++ ·) := by
  rw [h, he, Option.map_map]
  congr 1
  funext x
  simp
end Go.Proofs.YthjflofcgdfekaaGreatDoor
namespace Go.Proofs.YthjflofcgdfekaaGreatDoor
def letN (n : Int) : Bool := decide ((97 ≤ n ∧ n ≤ 122) ∨ (65 ≤ n ∧ n ≤ 90) ∨ n = 95)
def digN (n : Int) : Bool := decide (48 ≤ n ∧ n ≤ 57)
def blkN (n : Int) : Bool := decide (n = 32 ∨ n = 9 ∨ n = 10 ∨ n = 13)
def wdN (n : Int) : Bool := letN n || digN n
def cmt (c : Bool) (n : Int) : Bool := if n = 10 then false else if n = 35 then true else c
def sls (c : Bool) (n : Int) : Bool := decide (n = 92) && !c
def runM (st : Bool → Int → Bool) (go : Bool → Int → Bool) : Bool → List UInt8 → Nat
  | _, [] => 0
  | c, b :: t => if go c b.toNat = true then 1 + runM st go (st c b.toNat) t else 0
theorem runM_le (st go : Bool → Int → Bool) : ∀ (c : Bool) (l : List UInt8), runM st go c l ≤ l.length
  | _, [] => Nat.le_refl _
  | c, b :: t => by
    have := runM_le st go (st c b.toNat) t
    unfold runM
    split <;> simp <;> omega
theorem runM_go {st go : Bool → Int → Bool} {c : Bool} {b : UInt8} {t : List UInt8} (h : go c b.toNat = true) : runM st go c (b :: t) = 1 + runM st go (st c b.toNat) t := by rw [runM, if_pos h]
theorem runM_stop {st go : Bool → Int → Bool} {c : Bool} {b : UInt8} {t : List UInt8} (h : go c b.toNat = false) : runM st go c (b :: t) = 0 := by rw [runM, if_neg (by simp [h])]
def wSt (c : Bool) (_n : Int) : Bool := c
def wGo (_c : Bool) (n : Int) : Bool := wdN n
def lGo (c : Bool) (n : Int) : Bool := cmt c n || blkN n
def qGo (c : Bool) (n : Int) : Bool := decide (n ≠ 34) || c
def wLen (l : List UInt8) : Nat := runM wSt wGo false l
def lLen (l : List UInt8) : Nat := runM cmt lGo false l
def qLen (l : List UInt8) : Nat := runM sls qGo false l
end Go.Proofs.YthjflofcgdfekaaGreatDoor
namespace Go.Proofs.YthjflofcgdfekaaGreatDoor
open Go.Lib (decodeN encodeRune encodeRuneZ)
theorem len_pos {l : List UInt8} (h : l ≠ []) : 0 < l.length := by cases l <;> simp_all
def dec (l : List UInt8) : Nat × Nat := decodeN l.length (l.getD 0 0).toNat (l.getD 1 0).toNat (l.getD 2 0).toNat (l.getD 3 0).toNat
def okc (l : List UInt8) : Bool := !(decide (dec l = (65533, 1)))
theorem decN_ways (n b0 b1 b2 b3 : Nat) :
    (decodeN n b0 b1 b2 b3 = (65533, 1) ∧ 128 ≤ b0) ∨ (b0 < 128 ∧ decodeN n b0 b1 b2 b3 = (b0, 1)) ∨
    (b0 / 32 = 6 ∧ 1 < n ∧ b1 / 64 = 2 ∧ 128 ≤ b0 % 32 * 64 + b1 % 64 ∧ decodeN n b0 b1 b2 b3 = (b0 % 32 * 64 + b1 % 64, 2)) ∨
    (b0 / 16 = 14 ∧ 2 < n ∧ b1 / 64 = 2 ∧ b2 / 64 = 2 ∧ 2048 ≤ b0 % 16 * 4096 + b1 % 64 * 64 + b2 % 64 ∧ ¬ (55296 ≤ b0 % 16 * 4096 + b1 % 64 * 64 + b2 % 64 ∧ b0 % 16 * 4096 + b1 % 64 * 64 + b2 % 64 < 57344) ∧
      decodeN n b0 b1 b2 b3 = (b0 % 16 * 4096 + b1 % 64 * 64 + b2 % 64, 3)) ∨
    (b0 / 8 = 30 ∧ 3 < n ∧ b1 / 64 = 2 ∧ b2 / 64 = 2 ∧ b3 / 64 = 2 ∧ 65536 ≤ b0 % 8 * 262144 + b1 % 64 * 4096 + b2 % 64 * 64 + b3 % 64 ∧ b0 % 8 * 262144 + b1 % 64 * 4096 + b2 % 64 * 64 + b3 % 64 ≤ 1114111 ∧
      decodeN n b0 b1 b2 b3 = (b0 % 8 * 262144 + b1 % 64 * 4096 + b2 % 64 * 64 + b3 % 64, 4)) := by
  unfold decodeN
  by_cases h0 : b0 < 128
  · right; left; exact ⟨h0, by rw [if_pos h0]⟩
  rw [if_neg h0]
  by_cases h1 : b0 / 32 = 6 ∧ (1 < n ∧ b1 / 64 = 2)
  · rw [if_pos h1]
    by_cases g : b0 % 32 * 64 + b1 % 64 ≥ 128
    · rw [if_pos g]; right; right; left; exact ⟨h1.1, h1.2.1, h1.2.2, g, rfl⟩
    · rw [if_neg g]; left; exact ⟨rfl, by omega⟩
  rw [if_neg h1]
  by_cases h2 : b0 / 16 = 14 ∧ (1 < n ∧ b1 / 64 = 2) ∧ (2 < n ∧ b2 / 64 = 2)
  · rw [if_pos h2]
    by_cases g : b0 % 16 * 4096 + b1 % 64 * 64 + b2 % 64 ≥ 2048 ∧ (b0 % 16 * 4096 + b1 % 64 * 64 + b2 % 64 < 55296 ∨ (57344 ≤ b0 % 16 * 4096 + b1 % 64 * 64 + b2 % 64 ∧ b0 % 16 * 4096 + b1 % 64 * 64 + b2 % 64 ≤ 1114111))
    · rw [if_pos g]; right; right; right; left; exact ⟨h2.1, h2.2.2.1, h2.2.1.2, h2.2.2.2, g.1, by omega, rfl⟩
    · rw [if_neg g]; left; exact ⟨rfl, by omega⟩
  rw [if_neg h2]
  by_cases h3 : b0 / 8 = 30 ∧ (1 < n ∧ b1 / 64 = 2) ∧ (2 < n ∧ b2 / 64 = 2) ∧ (3 < n ∧ b3 / 64 = 2)
  · rw [if_pos h3]
    by_cases g : b0 % 8 * 262144 + b1 % 64 * 4096 + b2 % 64 * 64 + b3 % 64 ≥ 65536 ∧ (b0 % 8 * 262144 + b1 % 64 * 4096 + b2 % 64 * 64 + b3 % 64 < 55296 ∨ (57344 ≤ b0 % 8 * 262144 + b1 % 64 * 4096 + b2 % 64 * 64 + b3 % 64 ∧ b0 % 8 * 262144 + b1 % 64 * 4096 + b2 % 64 * 64 + b3 % 64 ≤ 1114111))
    · rw [if_pos g]; right; right; right; right; exact ⟨h3.1, h3.2.2.2.1, h3.2.1.2, h3.2.2.1.2, h3.2.2.2.2, g.1, by omega, rfl⟩
    · rw [if_neg g]; left; exact ⟨rfl, by omega⟩
  rw [if_neg h3]
  left; exact ⟨rfl, by omega⟩
theorem decN_pos (n b0 b1 b2 b3 : Nat) : 1 ≤ (decodeN n b0 b1 b2 b3).2 ∧ (decodeN n b0 b1 b2 b3).2 ≤ 4 := by
  rcases decN_ways n b0 b1 b2 b3 with ⟨h, _⟩ | ⟨_, h⟩ | ⟨_, _, _, _, h⟩ | ⟨_, _, _, _, _, _, h⟩ | ⟨_, _, _, _, _, _, _, h⟩ <;> rw [h] <;> simp
theorem decN_le (n b0 b1 b2 b3 : Nat) (hn : 1 ≤ n) : (decodeN n b0 b1 b2 b3).2 ≤ n := by
  rcases decN_ways n b0 b1 b2 b3 with ⟨h, _⟩ | ⟨_, h⟩ | ⟨_, _, _, _, h⟩ | ⟨_, _, _, _, _, _, h⟩ | ⟨_, _, _, _, _, _, _, h⟩ <;> rw [h] <;> simp <;> omega
theorem dec_pos (l : List UInt8) : 1 ≤ (dec l).2 := (decN_pos _ _ _ _ _).1
theorem dec_le4 (l : List UInt8) : (dec l).2 ≤ 4 := (decN_pos _ _ _ _ _).2
theorem dec_le (l : List UInt8) (h : l ≠ []) : (dec l).2 ≤ l.length := decN_le _ _ _ _ _ (len_pos h)
theorem okc_ne {l : List UInt8} (h : okc l = true) : dec l ≠ (65533, 1) := by simpa [okc] using h
theorem okc_bad {l : List UInt8} (h : okc l = false) : dec l = (65533, 1) := by simpa [okc] using h
def cnt (l : List UInt8) : Nat := if h : l = [] then 0 else 1 + cnt (l.drop (dec l).2)
termination_by l.length
decreasing_by
  have := dec_pos l
  have := len_pos h
  simp
  omega
def badAt (l : List UInt8) : Option Nat := if _h : l = [] then none else if okc l = true then (badAt (l.drop (dec l).2)).map (· + (dec l).2) else some 0
termination_by l.length
decreasing_by
  have := dec_pos l
  have := len_pos _h
  simp
  omega
def badI (l : List UInt8) : Int := match badAt l with | none => -1 | some k => k
theorem bad_nil : badAt [] = none := by rw [badAt]; simp
theorem bad_step {l : List UInt8} (h : l ≠ []) (hok : okc l = true) : badAt l = (badAt (l.drop (dec l).2)).map (· + (dec l).2) := by rw [badAt]; simp [h, hok]
theorem bad_here {l : List UInt8} (h : l ≠ []) (hok : okc l = false) : badAt l = some 0 := by rw [badAt]; simp [h, hok]
theorem badI_none {l : List UInt8} (h : badAt l = none) : badI l = -1 := by unfold badI; rw [h]
end Go.Proofs.YthjflofcgdfekaaGreatDoor
namespace Go.Proofs.YthjflofcgdfekaaGreatDoor
open Go.Lib (decodeN)
def gb (s : ByteArray) (i : Nat) : Nat := (s.data.toList.getD i 0).toNat
theorem gb_of (s : ByteArray) (i : Nat) (h : i < s.size) : (s[i]'h).toNat = gb s i := by
  unfold gb
  rw [List.getD_eq_getElem?_getD, List.getElem?_eq_getElem (by simpa using h)]
  rfl
def tl (s : ByteArray) (i : Nat) : List UInt8 := s.data.toList.drop i
theorem tl_len (s : ByteArray) (i : Nat) : (tl s i).length = s.size - i := by simp [tl]
theorem tl_ne (s : ByteArray) (i : Nat) (h : i < s.size) : tl s i ≠ [] := by
  intro e
  have := tl_len s i
  rw [e] at this
  simp at this
  omega
theorem tl_end (s : ByteArray) (i : Nat) (h : s.size ≤ i) : tl s i = [] := List.eq_nil_of_length_eq_zero (by rw [tl_len]; omega)
theorem tl_drop (s : ByteArray) (i j : Nat) : (tl s i).drop j = tl s (i + j) := by simp [tl, List.drop_drop]
theorem dec_w (s : ByteArray) (i : Nat) (h : i < s.size) : 1 ≤ (dec (tl s i)).2 ∧ (dec (tl s i)).2 ≤ 4 ∧ i + (dec (tl s i)).2 ≤ s.size := by
  have h1 := dec_le _ (tl_ne s i h)
  rw [tl_len] at h1
  exact ⟨dec_pos _, dec_le4 _, by omega⟩
end Go.Proofs.YthjflofcgdfekaaGreatDoor
