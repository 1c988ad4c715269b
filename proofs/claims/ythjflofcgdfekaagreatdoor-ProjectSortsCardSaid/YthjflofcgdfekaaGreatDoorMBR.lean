import Derived.Test.YthjflofcgdfekaaGreatDoorMBQ
import Derived.RangeFuncBox
import Derived.RangeFuncLeaves
import Derived.RangeFuncNested
import Derived.Shelf.Abstract
import Derived.OwnWalkIn
import Derived.TacticsInMore
import Derived.LoopNIn
import Derived.LoopIn
import Derived.Test.YthjflofcgdfekaaGreatDoorMAR
import Derived.Test.YthjflofcgdfekaaGreatDoorMAK
import Derived.Test.YthjflofcgdfekaaGreatDoorMBO
import Derived.Test.YthjflofcgdfekaaGreatDoorMBP
import Derived.BigQuiet
import Derived.Test.YthjflofcgdfekaaGreatDoorMAL
namespace Go.Proofs.YthjflofcgdfekaaGreatDoor
open Go.RowKit Go.Op Go.Shelf
namespace It
open Sc Od
open Sb (RowAt)
attribute [local go_sem] Oper.semAt_some
instance : Inhabited Bd := ⟨⟨0, 0, ⟨#[]⟩, 0⟩⟩
def upto {α : Type} (f : Nat → α) (k : Nat) : List α := (List.range k).map f
theorem upto_succ {α : Type} (f : Nat → α) (k : Nat) : upto f (k + 1) = upto f k ++ [f k] := by simp [upto, List.range_succ]
theorem upto_length {α : Type} (f : Nat → α) (k : Nat) : (upto f k).length = k := by simp [upto]
def fromB (zs : List Bd) (k : Nat) : Nat × Bd := (zs.length - 1 - k, zs[zs.length - 1 - k]?.getD default)
def encB (x : Nat × Bd) : Array Value := #[.int .i64 (x.1 : Int), .agg #[.int .i64 x.2.at_, .int .i64 x.2.kind, .string x.2.word, .int .i64 x.2.item]]
set_option maxRecDepth 100000 in
set_option maxHeartbeats 4000000 in
theorem back1_in (F : Fence) (n : Nat) (h129 : F.fn 129) (hro : F.round = none) (hn : 1 ≤ n) (l Bs n₀ cap : Nat) (A : Option Addr) (zs : List Bd) (hl : zs.length ≤ 1000000000) (hBn : Bs < n₀) (J Jx : List (Nat × Bd) → World → Prop)
    (hY : ∀ pre x W, J pre W → pre.length < zs.length → YieldAt F (n - 1) Tryz.prog l (encB x) W fun e W' =>
      (e = .returned (.bool true) ∧ J (pre ++ [x]) W' ∧ Below n₀ W W') ∨ (e = .returned (.bool false) ∧ Jx (pre ++ [x]) W'))
    (W : World) (hBs : W.cell? ⟨Bs, 0, none⟩ = some (.slice A zs.length cap)) (hc : 0 < zs.length → ∃ b o, A = some ⟨b, o, none⟩ ∧ b < n₀ ∧ ∀ i x, zs[i]? = some x → ∀ j u, (bdC x)[j]? = some u → W.cell? ⟨b, o + i * 4 + j, none⟩ = some u) (h0 : J [] W) :
    CallsIn F n Tryz.prog 129 #[.func (.yield l) #[] #[], .pointer (some ⟨Bs, 0, none⟩)] W fun e W' => (∃ v, e = .returned v) ∧
      ((∃ ys, ys = upto (fromB zs) zs.length ∧ J ys W') ∨ (∃ pre, (∃ k, k ≤ zs.length ∧ pre = upto (fromB zs) k) ∧ Jx pre W')) := by
  obtain ⟨N, hN⟩ : ∃ N, N = zs.length := ⟨_, rfl⟩
  have HN := Lib.hid hN
  have HC := Lib.hid hc
  have e1 : (N : Int) - 1 = ((N : Int) - 1) := rfl
  rw [← hN] at hBs hl
  have HBS : Hid (∀ W2, Below n₀ W W2 → W2.cell? ⟨Bs, 0, none⟩ = some (.slice A N cap)) := fun W2 h => (h.cell (p := ⟨Bs, 0, none⟩) hBn).trans hBs
  have hw : IntKind.i64.wrap ((N : Int) - 1) = (N : Int) - 1 := by rw [IntKind.wrap_i64]; omega
  clear hc hN
  refine callsIn_of_wp Tryz.func129 rfl h129 ?_ hro
  simp only [Tryz.ntmps129, List.size_toArray, List.length_cons, List.length_nil, Nat.reduceAdd, Nat.reduceSub, Array.replicate_succ, Array.replicate_zero, List.push_toArray, List.append_toArray, List.nil_append, List.cons_append]
  gi_wp2
  gi_loopw [3] (fun i wr => ∃ m : Nat, m ≤ N ∧ i = .int .i64 ((m : Int) - 1) ∧ J (upto (fromB zs) (N - m)) wr ∧ Below n₀ W wr)
    (fun i _ => (intOf i + 1).toNat)
  case atStart => exact ⟨N, Nat.le_refl _, by first | rfl | rw [hw], by rw [Nat.sub_self]; exact h0, Below.refl _ _⟩
  case round =>
    obtain ⟨m, hm, rfl, hJs, hnx⟩ := hrel
    have hbox := HBS.out wr hnx
    rcases Nat.eq_zero_or_pos m with rfl | hm0
    · gi_wp2
      go_end0
      exact ⟨⟨_, rfl⟩, .inl ⟨_, by rw [← HN.out]; rfl, hJs⟩⟩
    · obtain ⟨q, rfl⟩ : ∃ q, m = q + 1 := ⟨m - 1, by omega⟩
      have e2 : ((q + 1 : Nat) : Int) - 1 = (q : Int) := by omega
      rw [e2]
      have hq : q < zs.length := by rw [← HN.out]; omega
      obtain ⟨b, o, rfl, hb, hcs⟩ := HC.out (by omega)
      have hx : zs[q]? = some zs[q] := List.getElem?_eq_getElem hq
      have hcell : ∀ j u, (bdC zs[q])[j]? = some u → wr.cell? ⟨b, o + q * 4 + j, none⟩ = some u := fun j u hj => (hnx.cell (p := ⟨b, o + q * 4 + j, none⟩) hb).trans (hcs q _ hx j u hj)
      have hfk : fromB zs (N - (q + 1)) = (q, zs[q]) := by
        unfold fromB
        rw [show zs.length - 1 - (N - (q + 1)) = q by rw [← HN.out]; omega, hx]
        rfl
      obtain ⟨fn, tmps, assign, body, hy, hR⟩ := hY _ (q, zs[q]) wr hJs (by rw [upto_length, ← HN.out]; omega)
      have hnext : upto (fromB zs) (N - (q + 1)) ++ [(q, zs[q])] = upto (fromB zs) (N - q) := by
        rw [show N - q = N - (q + 1) + 1 by omega, upto_succ, hfk]
      rw [hnext] at hR
      generalize zs[q] = x at *
      obtain ⟨x1, x2, x3, x4⟩ := x
      have c0 : wr.cell? ⟨b, o + q * 4, none⟩ = some (.int .i64 x1) := hcell 0 _ rfl
      have c1 : wr.cell? ⟨b, o + q * 4 + 1, none⟩ = some (.int .i64 x2) := hcell 1 _ rfl
      have c2 : wr.cell? ⟨b, o + q * 4 + 2, none⟩ = some (.string x3) := hcell 2 _ rfl
      have c3 : wr.cell? ⟨b, o + q * 4 + 3, none⟩ = some (.int .i64 x4) := hcell 3 _ rfl
      dsimp only [encB] at hy
      have hql : (q : Int) < (N : Int) := by omega
      have hw2 : IntKind.i64.wrap ((q : Int) - 1) = (q : Int) - 1 := by rw [IntKind.wrap_i64]; omega
      clear hcell hfk hnext hx hcs e2
      gi_wp2
      refine hR.mono ?_
      rintro e W3 (⟨rfl, hJ3, hk3⟩ | ⟨rfl, hJx3⟩)
      · gi_wp2
        go_roundw
        case rel => exact ⟨q, by omega, by first | rfl | rw [hw2], hJ3, hnx.trans hk3⟩
        case measure => first | (simp [intOf]; done) | (simp [intOf]; omega)
      · gi_wp2
        refine bodyPost_ret (results_none rfl _ _ _) rfl ?_
        exact ⟨⟨_, rfl⟩, .inr ⟨_, ⟨N - q, by rw [← HN.out]; omega, rfl⟩, hJx3⟩⟩
set_option maxHeartbeats 1000000 in
theorem back_in (F : Fence) (n : Nat) (h95 : F.fn 95) (hro : F.round = none) (a : Option Addr) (len cap : Nat) (w : World) :
    CallsIn F n Tryz.prog 95 #[.slice a len cap] w fun e w' => e = .returned (.func (.func 129) #[] #[.pointer (some ⟨w.heap.size, 0, none⟩)]) ∧ w' = w.alloc (.cells #[.slice a len cap] 46) := by
  refine callsIn_of_wp Tryz.func95 rfl h95 ?_ hro
  simp only [Tryz.ntmps95, List.size_toArray, List.length_cons, List.length_nil, Nat.reduceAdd, Nat.reduceSub, Array.replicate_succ, Array.replicate_zero, List.push_toArray, List.append_toArray, List.nil_append, List.cons_append]
  gi_wp2
  go_ret
  exact ⟨rfl, rfl⟩
theorem back_stops (F : Fence) (n : Nat) (h129 : F.fn 129) (hro : F.round = none) (hn : 1 ≤ n) (Bs n₀ cap : Nat) (A : Option Addr) (zs : List Bd) (hl : zs.length ≤ 1000000000) (w : World) (hBn : Bs < n₀) (hn₀ : n₀ ≤ w.heap.size)
    (hc : w.cell? ⟨Bs, 0, none⟩ = some (.slice A zs.length cap)) (hI : 0 < zs.length → ∃ b o, A = some ⟨b, o, none⟩ ∧ b < n₀ ∧ ∀ i x, zs[i]? = some x → ∀ j u, (bdC x)[j]? = some u → w.cell? ⟨b, o + i * 4 + j, none⟩ = some u) :
    SeqStopsK F n Tryz.prog 129 #[.pointer (some ⟨Bs, 0, none⟩)] encB (Below n₀) (fun ys => ys = upto (fromB zs) zs.length) (fun pre => ∃ k, k ≤ zs.length ∧ pre = upto (fromB zs) k) zs.length w := fun l J Jx W hW _ _ hY h0 => by
  refine back1_in F n h129 hro hn l Bs n₀ cap A zs hl hBn J Jx hY W ((hW.cell (p := ⟨Bs, 0, none⟩) (Nat.lt_of_lt_of_le hBn hn₀)).trans hc) (fun hz => ?_) h0
  obtain ⟨b, o, e, hb, hcs⟩ := hI hz
  exact ⟨b, o, e, hb, fun i x hx j u hj => (hW.cell (p := ⟨b, o + i * 4 + j, none⟩) (Nat.lt_of_lt_of_le hb hn₀)).trans (hcs i x hx j u hj)⟩
end It
end Go.Proofs.YthjflofcgdfekaaGreatDoor
namespace Go.Proofs.YthjflofcgdfekaaGreatDoor
open Go.RowKit Go.Sort Go.Proofs
namespace Ot
open Od Og
variable {D : Type} {c : D → D → Int}
def cfG (c : D → D → Int) (x y : D × Nat) : Int := c x.1 y.1
theorem neg' (hc : Ord3 c) (x y : D × Nat) : cfG c y x = - cfG c x y := hc.neg _ _
theorem tr' (hc : Ord3 c) (x y z : D × Nat) : cfG c x y ≤ 0 → cfG c y z ≤ 0 → cfG c x z ≤ 0 ∧ (cfG c x z = 0 → cfG c x y = 0 ∧ cfG c y z = 0) := hc.tr _ _ _
theorem ltcf (c : D → D → Int) (x y : (D × Nat)) : ltOf (cfG c) x y = decide ((cfG c) x y < 0) := rfl
def LT (c : D → D → Int) (x y : (D × Nat)) : Bool := decide ((cfG c) x y < 0 ∨ ((cfG c) x y = 0 ∧ x.2 < y.2))
theorem cmp_yes {x y : (D × Nat)} (h : (cfG c) x y < 0) : LT c x y = true := by
  unfold LT
  simp only [decide_eq_true_iff]
  exact .inl h
theorem tag_get : ∀ (i : Nat) (l : List D) (k : Nat) (x : D), l[k]? = some x → (tagG i l)[k]? = some (x, i + k)
  | _, [], k, x, h => by simp at h
  | i, y :: l, 0, x, h => by
    simp only [List.getElem?_cons_zero, Option.some.injEq] at h
    subst h
    rfl
  | i, y :: l, k + 1, x, h => by
    rw [tagG, List.getElem?_cons_succ, tag_get (i + 1) l k x (by simpa using h), show i + 1 + k = i + (k + 1) by omega]
theorem swocf (hc : Ord3 c) : SWO (ltOf (cfG c)) where
  irrefl x := by
    have := neg' hc x x
    rw [ltcf, decide_eq_false_iff_not]
    omega
  trans x y z h1 h2 := by
    have := tr' hc x y z
    rw [ltcf] at *
    simp only [decide_eq_true_iff] at *
    omega
  ntrans x y z h1 h2 := by
    have := tr' hc z y x
    have := neg' hc x y
    have := neg' hc y z
    have := neg' hc x z
    rw [ltcf] at *
    simp only [decide_eq_false_iff_not] at *
    omega
theorem swoLT (hc : Ord3 c) : SWO (LT c) where
  irrefl x := by
    have := neg' hc x x
    unfold LT
    simp only [decide_eq_false_iff_not]
    omega
  trans x y z h1 h2 := by
    have := tr' hc x y z
    unfold LT at *
    simp only [decide_eq_true_iff] at *
    omega
  ntrans x y z h1 h2 := by
    have := tr' hc z y x
    have := neg' hc x y
    have := neg' hc y z
    have := neg' hc x z
    unfold LT at *
    simp only [decide_eq_false_iff_not] at *
    omega
variable [Inhabited D]
abbrev at_ (d : Array (D × Nat)) : Nat → (D × Nat) := fun x => d[x]!
def Tied (c : D → D → Int) (d : Array (D × Nat)) : Prop := ∀ i j, i < j → j < d.size → (cfG c) (at_ d i) (at_ d j) = 0 → (at_ d i).2 < (at_ d j).2
theorem cmp_no {d : Array (D × Nat)} (hc : Ord3 c) (hT : Tied c d) {i j : Nat} (hij : i < j) (hj : j < d.size) (h : decide ((cfG c) d[j]! d[i]! < 0) = false) : LT c (at_ d j) (at_ d i) = false := by
  have h2 := hT i j hij hj
  have := neg' hc (at_ d i) (at_ d j)
  have h1 : decide ((cfG c) (at_ d j) (at_ d i) < 0) = false := h
  unfold LT
  simp only [decide_eq_false_iff_not] at *
  generalize at_ d i = p at *
  generalize at_ d j = q at *
  omega
theorem tied_lt {d : Array (D × Nat)} (hc : Ord3 c) (hT : Tied c d) {i j : Nat} (hij : i < j) (hj : j < d.size) (h : LT c (at_ d j) (at_ d i) = true) : (cfG c) (at_ d j) (at_ d i) < 0 := by
  have h2 := hT i j hij hj
  have := neg' hc (at_ d i) (at_ d j)
  unfold LT at h
  simp only [decide_eq_true_iff] at h
  omega
theorem swp_tied {d : Array (D × Nat)} (hT : Tied c d) {j : Nat} (hj : j + 1 < d.size) (h : (cfG c) (at_ d (j + 1)) (at_ d j) < 0) : Tied c (swp d (j + 1) j) := by
  intro x y hxy hy he
  have hs : (swp d (j + 1) j).size = d.size := by simp [swp]
  rw [hs] at hy
  have e : ∀ k, at_ (swp d (j + 1) j) k = if k = j then at_ d (j + 1) else if k = j + 1 then at_ d j else at_ d k := fun k => swp_get d hj (by omega) k
  rw [e, e] at he ⊢
  by_cases x1 : x = j
  · subst x1
    rw [if_pos rfl] at he ⊢
    by_cases y1 : y = x + 1
    · subst y1
      rw [if_neg (by omega), if_pos rfl] at he
      omega
    · rw [if_neg (by omega), if_neg y1] at he ⊢
      exact hT _ _ (by omega) hy he
  · rw [if_neg x1] at he ⊢
    by_cases x2 : x = j + 1
    · subst x2
      rw [if_pos rfl, if_neg (by omega), if_neg (by omega)] at he
      rw [if_pos rfl, if_neg (by omega), if_neg (by omega)]
      exact hT _ _ (by omega) hy he
    · rw [if_neg x2] at he ⊢
      by_cases y1 : y = j
      · subst y1
        rw [if_pos rfl] at he ⊢
        exact hT _ _ (by omega) hj he
      · rw [if_neg y1] at he ⊢
        by_cases y2 : y = j + 1
        · subst y2
          rw [if_pos rfl] at he ⊢
          exact hT _ _ (by omega) (by omega) he
        · rw [if_neg y2] at he ⊢
          exact hT _ _ hxy hy he
theorem insInner_tied (a : Nat) : ∀ (j : Nat) (d : Array (D × Nat)), j < d.size → Tied c d → Tied c (insInner (ltOf (cfG c)) a j d) ∧ (insInner (ltOf (cfG c)) a j d).size = d.size
  | 0, d, _, h => ⟨h, rfl⟩
  | j + 1, d, hj, h => by
    rw [insInner]
    split
    · rename_i hcc
      simp only [Bool.and_eq_true, decide_eq_true_eq] at hcc
      have h1 := hcc.2
      rw [ltcf, decide_eq_true_iff] at h1
      have hs : (swp d (j + 1) j).size = d.size := by simp [swp]
      obtain ⟨r1, r2⟩ := insInner_tied a j (swp d (j + 1) j) (by rw [hs]; omega) (swp_tied h hj h1)
      exact ⟨r1, r2.trans hs⟩
    · exact ⟨h, rfl⟩
theorem insOuter_tied (a b : Nat) : ∀ (n i : Nat) (d : Array (D × Nat)), b - i ≤ n → b ≤ d.size → Tied c d → Tied c (insOuter (ltOf (cfG c)) a b i d)
  | 0, i, d, hn, hb, h => by
    rw [insOuter, if_neg (by omega)]
    exact h
  | n + 1, i, d, hn, hb, h => by
    rw [insOuter]
    split
    · obtain ⟨r1, r2⟩ := insInner_tied a i d (by omega) h
      exact insOuter_tied a b n (i + 1) _ (by omega) (by rw [r2]; exact hb) r1
    · exact h
theorem ins_tied (hc : Ord3 c) (d : Array (D × Nat)) (hT : Tied c d) : Tied c (insertionSort (ltOf (cfG c)) d 0 d.size) ∧ PermIn 0 d.size d (insertionSort (ltOf (cfG c)) d 0 d.size) ∧ SortedIn (ltOf (cfG c)) 0 d.size (insertionSort (ltOf (cfG c)) d 0 d.size) := by
  have h := insertionSort_holds (swocf hc) d 0 d.size (Nat.zero_le _) (Nat.le_refl _)
  exact ⟨insOuter_tied 0 d.size d.size 1 d (by omega) (Nat.le_refl _) hT, h.1, h.2⟩
theorem tag_tied (l : List D) : Tied c (tagG 0 l).toArray := by
  have key : ∀ k, k < (tagG 0 l).toArray.size → (at_ (tagG 0 l).toArray k).2 = k := fun k hk => by
    have hk' : k < l.length := by simpa [tagG_len] using hk
    have hh := tag_get 0 l k _ (List.getElem?_eq_getElem hk')
    unfold at_
    rw [getElem!_pos (tagG 0 l).toArray _ hk]
    have e : (tagG 0 l).toArray[k] = (l[k], 0 + k) := by
      rw [← Option.some.injEq, ← hh]
      simp
    rw [e]
    simp
  intro i j hij hj _
  rw [key i (by omega), key j hj]
  exact hij
theorem ins_st (hc : Ord3 c) (l : List D) : StG c l ((insertionSort (ltOf (cfG c)) (tagG 0 l).toArray 0 l.length).toList.map Prod.fst) := by
  obtain ⟨h1, h2, h3⟩ := ins_tied hc (tagG 0 l).toArray (tag_tied l)
  have e0 : (tagG 0 l).toArray.size = l.length := by simp [tagG_len]
  rw [e0] at h1 h2 h3
  obtain ⟨d', hd⟩ : ∃ d', d' = insertionSort (ltOf (cfG c)) (tagG 0 l).toArray 0 l.length := ⟨_, rfl⟩
  rw [← hd] at h1 h2 h3 ⊢
  have hsz : d'.size = l.length := by rw [h2.1, e0]
  refine ⟨d'.toList, ?_, ?_, rfl⟩
  · have h4 := h2.2.2
    have h5 : d'.extract 0 l.length = d' := by rw [← hsz]; simp
    have h6 : (tagG 0 l).toArray.extract 0 l.length = (tagG 0 l).toArray := by rw [← e0]; simp
    rw [h5, h6] at h4
    simpa using h4
  · rw [List.pairwise_iff_getElem]
    intro i j hi hj hij
    have hj' : j < d'.size := by simpa using hj
    have h7 := h3 i j (Nat.zero_le _) hij (by rw [← hsz]; exact hj')
    have h8 := h1 i j hij hj'
    rw [ltcf, decide_eq_false_iff_not] at h7
    unfold at_ at *
    rw [getElem!_pos d' j hj', getElem!_pos d' i (by omega)] at h7 h8
    rw [show d'.toList[i] = d'[i]'(by omega) from by simp, show d'.toList[j] = d'[j] from by simp]
    have := neg' hc d'[i] d'[j]
    show cfG c d'[i] d'[j] < 0 ∨ cfG c d'[i] d'[j] = 0 ∧ _
    unfold cfG at *
    omega
end Ot
end Go.Proofs.YthjflofcgdfekaaGreatDoor


namespace Go.Proofs.YthjflofcgdfekaaGreatDoor
open Go.RowKit Go.Op
namespace Sc
open Vm
open Ps Pg Sb
theorem lexF_len (s : ByteArray) : ∀ (f k n : Nat) (l : List Tok), n ≤ 4000 → lexF s f k n = .good l → n + l.length ≤ 4000
  | 0, _, _, _, _, h => by rw [lexF] at h; cases h
  | f + 1, k, n, l, hn, h => by
    rw [lexF] at h
    split at h
    · cases h
    · split at h
      · cases h
      · split at h
        · injection h with h
          rw [← h]
          simp
          omega
        · cases e : lexF s f (endK s k) (n + 1) with
          | bad a b => rw [e] at h; cases h
          | good m =>
            rw [e] at h
            have h' : [tokK s k] ++ m = l := by injection h
            have := lexF_len s f _ _ m (by omega) e
            rw [← h']
            simp
            omega
theorem tok_size (s : ByteArray) (k : Nat) : (tokK s k).text.size ≤ s.size := by
  unfold tokK
  simp only [ByteArray.size_extract]
  omega
theorem lex_facts {s : ByteArray} {l : List Tok} (h : lexR s = .good l) : l.length ≤ 4000 ∧ ∀ j, (textAt l j).size ≤ 16384 := by
  unfold lexR at h
  split at h
  · cases h
  · rename_i hs
    split at h
    · cases h
    · refine ⟨by have := lexF_len s _ _ _ l (by omega) h; omega, fun j => ?_⟩
      unfold textAt
      cases e : l[j]? with
      | none => decide
      | some t =>
        obtain ⟨k, rfl, _⟩ := lexF_mem s _ _ _ _ h t (List.mem_of_getElem? e)
        have := tok_size s k
        show (tokK s k).text.size ≤ 16384
        omega
theorem words_apt {l : List Tok} (hw : ∀ j, (textAt l j).size ≤ 16384) : ∀ (k : Fo) (a t : Nat), Apt l k a t → wordsOk k
  | .nil, _, _, _ => trivial
  | .cons h k r, a, t, ⟨h1, h2, h3, h4, h5⟩ => by
    have e0m : e0.size ≤ maxLen := by decide
    have m16 : (16384 : Nat) ≤ maxLen := by decide
    unfold nodeOK at h1
    refine ⟨?_, ?_, words_apt hw r _ t h5⟩
    · split at h1
      · rw [h1.2.2]; exact e0m
      · rcases h1.2.2.2 with ⟨e, _⟩ | ⟨⟨j, e⟩, _⟩
        · rw [e]; exact e0m
        · rw [e]; exact Nat.le_trans (hw j) m16
    · by_cases c0 : h.kind = 0
      · rw [h2 c0]; exact trivial
      · by_cases c2 : h.kind = 2
        · have hu := h3 c2
          cases k with
          | nil => exact trivial
          | cons hk kk rk =>
            obtain ⟨u1, u2, j, u3⟩ := hu
            subst u1 u2
            exact ⟨by rw [u3]; exact Nat.le_trans (hw j) m16, trivial, trivial⟩
        · exact words_apt hw k _ _ (h4 c0 c2)
theorem fc_tr : ∀ k : Fo, (tr k).cnt = fc k
  | .nil => rfl
  | .cons h k r => by rw [tr, Tr.cnt, fc, fc_tr k, fc_tr r]
theorem of_facts {s : ByteArray} {l : List Tok} {h : Hd} {k : Fo} (hof : ofM s = .ok l h k) : h.kind = 1 ∧ (∃ t, Apt l k 0 t) ∧ Its k ∧ fc k ≤ 16000 ∧ wordsOk k := by
  unfold ofM at hof
  cases hl : lexR s with
  | bad a b => rw [hl] at hof; cases hof
  | good l' =>
    rw [hl] at hof
    dsimp only at hof
    cases hp : parseM l' with
    | bad a b => rw [hp] at hof; cases hof
    | ok h' k' =>
      rw [hp] at hof
      dsimp only at hof
      injection hof with e1 e2 e3
      subst e1 e2 e3
      obtain ⟨f1, f2⟩ := lex_facts hl
      have W := (lexR_wf hl f1).toWf
      obtain ⟨q, hq, hlt⟩ := items_some W
      unfold parseM at hp
      rw [hq] at hp
      dsimp only at hp
      unfold wholeM at hp
      split at hp
      · cases hp
      · rename_i hg
        dsimp only at hg
        split at hp
        · cases hp
        · simp only [Fo.one] at hp
          split at hp
          · cases hp
          · injection hp with h1 h2
            subst h1 h2
            have hq2 : q.2.2 < 0 := by omega
            obtain ⟨a1, a2, _⟩ := items_apt _ _ _ _ hq hq2
            have hc := items_cnt _ _ _ _ hq hq2
            have := hlt hq2
            exact ⟨rfl, ⟨_, a1⟩, items_its _ _ _ _ hq, by omega, words_apt f2 _ _ _ a1⟩
end Sc
end Go.Proofs.YthjflofcgdfekaaGreatDoor
namespace Go.Proofs.YthjflofcgdfekaaGreatDoor
open Go.RowKit Go.Op
namespace Sc
open Vm
open Ps Pg Sb
theorem of_bad {s : ByteArray} {e a : Int} (h : ofM s = .bad e a) : e ≠ 0 := by
  unfold ofM at h
  cases hx : lexR s with
  | bad e' a' =>
    rw [hx] at h
    injection h with h1 h2
    rw [← h1]
    exact lexR_bad hx
  | good l =>
    rw [hx] at h
    dsimp only at h
    cases hp : parseM l with
    | ok h' k' => rw [hp] at h; cases h
    | bad e' a' =>
      rw [hp] at h
      injection h with h1 h2
      have hle : l.length ≤ 4000 := (lex_facts hx).1
      have := parse_bad (lexR_wf hx hle) hp
      omega
end Sc
end Go.Proofs.YthjflofcgdfekaaGreatDoor

namespace Go.Proofs.YthjflofcgdfekaaGreatDoor
open Go.RowKit Go.Op
namespace Sc
open Vm
open Sb
theorem row_fin {α : Type} {Wc W : World} {lo hi lo' hi' : Nat} {f : α → List Value} {sz : Nat} {A : Option Addr} {l : List α} (h : RowAt Wc lo hi f sz A l) (hl : lo' ≤ lo) (hh : hi ≤ hi') (hb : ∀ g, A = some ⟨g, 0, none⟩ → lo ≤ g → g < hi → W.heap[g]? = Wc.heap[g]?) : RowAt W lo' hi' f sz A l := fun h0 => by
  obtain ⟨g, e, h1, h2, h3⟩ := h h0
  exact ⟨g, e, by omega, by omega, fun i x hx j u hj => (World.cell?_of_block (w := Wc) (hb g e h1 h2)).trans (h3 i x hx j u hj)⟩
end Sc
end Go.Proofs.YthjflofcgdfekaaGreatDoor
namespace Go.Proofs.YthjflofcgdfekaaGreatDoor
open Go.RowKit Go.Op
namespace Sc
open Vm
open Ps Pg Sb
theorem of_gdi {s : ByteArray} {l : List Tok} {h : Hd} {k : Fo} (hof : ofM s = .ok l h k) : GdI (tr k) := by
  unfold ofM at hof
  cases hl : lexR s with
  | bad a b => rw [hl] at hof; cases hof
  | good l' =>
    rw [hl] at hof
    dsimp only at hof
    cases hp : parseM l' with
    | bad a b => rw [hp] at hof; cases hof
    | ok h' k' =>
      rw [hp] at hof
      dsimp only at hof
      injection hof with e1 e2 e3
      subst e1 e2 e3
      obtain ⟨f1, f2⟩ := lex_facts hl
      have W := (lexR_wf hl f1).toWf
      obtain ⟨q, hq, hlt⟩ := items_some W
      unfold parseM at hp
      rw [hq] at hp
      dsimp only at hp
      unfold wholeM at hp
      split at hp
      · cases hp
      · rename_i hg
        dsimp only at hg
        split at hp
        · cases hp
        · simp only [Fo.one] at hp
          split at hp
          · cases hp
          · injection hp with h1 h2
            subst h1 h2
            have hq2 : q.2.2 < 0 := by omega
            exact items_gd _ _ _ _ hq
end Sc
end Go.Proofs.YthjflofcgdfekaaGreatDoor
namespace Go.Proofs.YthjflofcgdfekaaGreatDoor
open Go.RowKit Go.Op
namespace Pj
open Sc Ps Pg
open Sb (RowAt)
structure Un where
  n : ByteArray
  x : ByteArray
  A : Option Addr
  ln : Nat
  cp : Nat
  kd : Int
  fr : Int
  tl : Int
  wd : ByteArray
  at_ : Int
  B : Option Addr
  kl : Nat
  kc : Nat
  A1 : Option Addr
  n1 : Nat
  c1 : Nat
  A2 : Option Addr
  n2 : Nat
  c2 : Nat
  A3 : Option Addr
  n3 : Nat
  c3 : Nat
  bad : Int
  ab : Int
abbrev eb : ByteArray := ⟨#[]⟩
def badU (n x : ByteArray) (e a : Int) : Un := ⟨n, x, none, 0, 0, 0, 0, 0, eb, 0, none, 0, 0, none, 0, 0, none, 0, 0, none, 0, 0, e, a⟩
instance : Inhabited Un := ⟨badU eb eb 0 0⟩
def unC (u : Un) : List Value := [.string u.n, .string u.x, .slice u.A u.ln u.cp, .int .i64 u.kd, .int .i64 u.fr, .int .i64 u.tl, .string u.wd, .int .i64 u.at_, .slice u.B u.kl u.kc, .slice u.A1 u.n1 u.c1, .slice u.A2 u.n2 u.c2, .slice u.A3 u.n3 u.c3, .int .i64 u.bad, .int .i64 u.ab]
theorem unC_len (u : Un) : (unC u).length = 14 := rfl
theorem unC_one (u : Un) : ∀ v ∈ unC u, v.oneCell' = true := by
  intro v hv
  simp [unC] at hv
  rcases hv with rfl | rfl | rfl | rfl | rfl | rfl | rfl | rfl | rfl | rfl | rfl | rfl | rfl | rfl <;> rfl
abbrev stF (k : Fo) : Sc.St := file (tr k)
structure UGood (lo : Nat) (w : World) (u : Un) (l : List Tok) (h : Hd) (k : Fo) : Prop where
  hd : hi_ h = ⟨u.kd, u.fr, u.tl, u.wd, u.at_⟩
  zb : u.bad = 0 ∧ u.ab = 0
  ln : u.ln = l.length
  lc : l.length ≤ u.cp
  tok : TokAt w u.A l
  kl : u.kl = k.len
  tree : KV w (fun g => lo ≤ g) k u.B u.kc
  n1 : u.n1 = (stF k).bs.length
  n2 : u.n2 = (stF k).ms.length
  n3 : u.n3 = (stF k).bad.length
  r1 : RowAt w lo w.heap.size bdC 4 u.A1 (stF k).bs
  r2 : RowAt w lo w.heap.size mnC 4 u.A2 (stF k).ms
  r3 : RowAt w lo w.heap.size baC 2 u.A3 (sortR [] (stF k).bad)
  sum : (stF k).bs.length + (stF k).ms.length + (stF k).bad.length ≤ 100000000
def UOk (lo : Nat) (w : World) (u : Un) : Prop := match ofM u.x with
  | .ok l h k => UGood lo w u l h k
  | .bad e a => u = badU u.n u.x e a
theorem UGood.below {lo : Nat} {w w' : World} {u : Un} {l : List Tok} {h : Hd} {k : Fo} (g : UGood lo w u l h k) (hb : Below w.heap.size w w') : UGood lo w' u l h k :=
  ⟨g.hd, g.zb, g.ln, g.lc, g.tok.below hb, g.kl, g.tree.below hb, g.n1, g.n2, g.n3, row_up g.r1 (Nat.le_refl _) hb, row_up g.r2 (Nat.le_refl _) hb, row_up g.r3 (Nat.le_refl _) hb, g.sum⟩
theorem UOk.below {lo : Nat} {w w' : World} {u : Un} (h : UOk lo w u) (hb : Below w.heap.size w w') : UOk lo w' u := by
  unfold UOk at *
  split
  · rename_i l hd k e
    rw [e] at h
    exact UGood.below h hb
  · rename_i a b e
    rw [e] at h
    exact h
theorem UGood.mono {lo lo' : Nat} {w : World} {u : Un} {l : List Tok} {h : Hd} {k : Fo} (g : UGood lo w u l h k) (hl : lo' ≤ lo) : UGood lo' w u l h k :=
  ⟨g.hd, g.zb, g.ln, g.lc, g.tok, g.kl, g.tree.keep (Nat.le_refl _) fun _ hg _ => ⟨rfl, Nat.le_trans hl hg⟩, g.n1, g.n2, g.n3, row_fin g.r1 hl (Nat.le_refl _) fun _ _ _ _ => rfl, row_fin g.r2 hl (Nat.le_refl _) fun _ _ _ _ => rfl, row_fin g.r3 hl (Nat.le_refl _) fun _ _ _ _ => rfl, g.sum⟩
theorem UOk.mono {lo lo' : Nat} {w : World} {u : Un} (h : UOk lo w u) (hl : lo' ≤ lo) : UOk lo' w u := by
  unfold UOk at *
  split
  · rename_i l hd k e
    rw [e] at h
    exact UGood.mono h hl
  · rename_i a b e
    rw [e] at h
    exact h
theorem UOk.put {lo G : Nat} {w W' : World} {u : Un} (h : UOk lo w u) (hP : ∀ g, g ≠ G → g < w.heap.size → W'.heap[g]? = w.heap[g]?) (hs : w.heap.size ≤ W'.heap.size) (hG : G < lo) {t : ByteArray} (hc : w.cell? ⟨G, 0, none⟩ = some (.string t)) : UOk lo W' u := by
  unfold UOk at *
  split
  · rename_i l hd k e
    rw [e] at h
    have g : UGood lo w u l hd k := h
    have rowf : ∀ {α : Type} {f : α → List Value} {sz : Nat} {B : Option Addr} {q : List α}, RowAt w lo w.heap.size f sz B q → RowAt W' lo W'.heap.size f sz B q := fun h =>
      row_fin h (Nat.le_refl _) hs fun g _ hg hl => hP g (by omega) hl
    refine ⟨g.hd, g.zb, g.ln, g.lc, ?_, g.kl, g.tree.keep hs fun b hb hl => ⟨hP b (by omega) hl, hb⟩, g.n1, g.n2, g.n3, rowf g.r1, rowf g.r2, rowf g.r3, g.sum⟩
    intro h0
    obtain ⟨b, eb, hb, hcs⟩ := g.tok h0
    have hne : b ≠ G := fun e => by
      obtain ⟨c0, _⟩ := hcs 0 h0
      rw [e, Nat.zero_mul, hc] at c0
      simp at c0
    refine ⟨b, eb, by omega, fun i hi => ?_⟩
    obtain ⟨c0, c1, c2, c3⟩ := hcs i hi
    have hcell : ∀ o, W'.cell? ⟨b, o, none⟩ = w.cell? ⟨b, o, none⟩ := fun o => World.cell?_of_block (w := w) (hP b hne hb)
    exact ⟨(hcell _).trans c0, (hcell _).trans c1, (hcell _).trans c2, (hcell _).trans c3⟩
  · rename_i a b e
    rw [e] at h
    exact h
structure Us (w : World) (lo : Nat) (A : Option Addr) (us : List Un) : Prop where
  row : RowAt w lo w.heap.size unC 14 A us
  ok : ∀ u ∈ us, UOk lo w u
theorem Us.below {w w' : World} {lo : Nat} {A : Option Addr} {us : List Un} (h : Us w lo A us) (hb : Below w.heap.size w w') : Us w' lo A us :=
  ⟨row_up h.row (Nat.le_refl _) hb, fun u hu => (h.ok u hu).below hb⟩
def nx (u : Un) : ByteArray × ByteArray := (u.n, u.x)
end Pj
end Go.Proofs.YthjflofcgdfekaaGreatDoor
namespace Go.Proofs.YthjflofcgdfekaaGreatDoor
open Go.RowKit Go.Sort Go.Proofs Go.Shelf
namespace Su
open Od Og Ot Pj
def cu (a b : Un) : Int := cmpB a.n b.n
theorem ordU : Ord3 cu := ord_map Un.n ord_bytes
def encU (e : Un × Nat) : List Value := unC e.1
theorem encU_len (e : Un × Nat) : (encU e).length = 14 := rfl
theorem encU_one (e : Un × Nat) : ∀ v ∈ encU e, v.oneCell' = true := unC_one e.1
set_option maxHeartbeats 4000000 in
set_option maxRecDepth 100000 in
theorem ltU_any (x y : Un) (w : World) : Calls Tryz.prog 74 #[.agg (unC x).toArray, .agg (unC y).toArray] w fun e w' => e = .returned (.int .i64 (cu x y)) ∧ ∃ q os, w' = Go.Sort.grow (w.drewN q) os := by
  obtain ⟨r, hr⟩ : ∃ r, r = cu x y := ⟨_, rfl⟩
  rw [← hr]
  unfold cu at hr
  simp only [unC]
  go_enter Tryz.func74, Tryz.ntmps74
  go_wp2_with (go_at_call 64; refine (compareS_any _ _ _).mono ?_; rintro e w' ⟨rfl, rfl⟩)
  rw [← hr]
  go_ret
  refine ⟨by first | rfl | simp, 0, #[.cells (unC x).toArray 52] ++ #[.cells (unC y).toArray 52], ?_⟩
  rw [alloc_eq_grow, alloc_eq_grow, grow_grow]
  rfl
def ins20_ren : Go.Shelf.Ren := ⟨fun | 20 => 149 | n => n, fun | 24 => 52 | 22 => 85 | 3 => 3 | 25 => 149 | 4 => 4 | 0 => 0 | n => n, fun | n => n⟩
theorem ins20 : Go.Proofs.SlLaysF0.n20 Tryz.prog ins20_ren := {
  mixed := by kernel_rfl
  f20 := ⟨Tryz.f149.name, by kernel_rfl, Tryz.func149.trans (congrArg some (by kernel_rfl))⟩
  t0 := Tryz.underlying0
  a0 := Tryz.isAgg0
  z0 := Tryz.sizeOf0
  v0 := Tryz.zeroValue0
  t3 := Tryz.underlying3
  a3 := Tryz.isAgg3
  z3 := Tryz.sizeOf3
  v3 := Tryz.zeroValue3
  t4 := Tryz.underlying4
  a4 := Tryz.isAgg4
  z4 := Tryz.sizeOf4
  v4 := Tryz.zeroValue4
  t22 := Tryz.underlying85
  a22 := Tryz.isAgg85
  z22 := Tryz.sizeOf85
  v22 := Tryz.zeroValue85
  t25 := Tryz.underlying149
  a25 := Tryz.isAgg149
  z25 := Tryz.sizeOf149
  v25 := Tryz.zeroValue149 }
theorem enter74 : ∀ args w, (callFunc 74 args).run Tryz.prog w = .ok (.enter 74 args) w := enters_of Tryz.func74 (by kernel_rfl) rfl
theorem cmpLaysU (blk off size : Nat) (w : World) : CmpLays Tryz.prog 74 #[] encU 14 (cfG cu) blk off size w :=
  fun _ _ _ _ x y => ltU_any x.1 y.1 _
theorem own_holds {w : World} {base g cap : Nat} {l : List Un} (h : w.ownsRow base 52 14 (.slice (some ⟨g, 0, none⟩) l.length cap) l.length (l.flatMap unC)) : HoldsK encU 14 w g 0 (tagG 0 l).toArray := fun t ht => by
  rw [size_flatK] at ht
  have ht' : t < l.length * 14 := by simpa [tagG_len] using ht
  rw [get_flatK _ _ _ _ ht]
  have hi : t / 14 < l.length := by omega
  obtain ⟨x, hx⟩ : ∃ x, l[t / 14]? = some x := ⟨l[t / 14], List.getElem?_eq_getElem hi⟩
  have e : (tagG 0 l).toArray[t / 14]! = (x, 0 + t / 14) := by
    have hh := tag_get 0 l _ _ hx
    have hl : t / 14 < (tagG 0 l).toArray.size := by simpa [tagG_len] using hi
    rw [getElem!_pos (tagG 0 l).toArray _ hl, ← Option.some.injEq, ← hh]
    simp
  rw [e]
  obtain ⟨g', c', e2, _, _, _, hc⟩ := Sc.row_get h (fun _ => unC_len _) hx rfl
  injection e2 with e2 _ _
  injection e2 with e2
  injection e2 with e2
  subst e2
  refine ⟨?_, h.frozenAt (0 + t)⟩
  have hlt : t % 14 < (unC x).length := by rw [unC_len]; omega
  have := hc (t % 14) ((unC x)[t % 14]) (List.getElem?_eq_getElem hlt)
  rw [show 0 + t = t / 14 * 14 + t % 14 by omega, this]
  congr 1
  unfold encU
  rw [getElem!_pos (unC x) _ hlt]
  rfl
end Su
end Go.Proofs.YthjflofcgdfekaaGreatDoor
