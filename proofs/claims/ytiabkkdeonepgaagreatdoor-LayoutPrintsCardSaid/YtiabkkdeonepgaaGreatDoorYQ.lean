import Derived.Test.YtiabkkdeonepgaaGreatDoorXR
import Derived.Test.YtiabkkdeonepgaaGreatDoorXZ
import Derived.Test.YtiabkkdeonepgaaGreatDoorYT
namespace Go.Proofs.YtiabkkdeonepgaaGreatDoor
open Go.RowKit
namespace Ps
open Pg
def nb (l : Bs) : Nat := l.countP fun c => !(c == 32 || c == 10)
theorem nb_app (a b : Bs) : nb (a ++ b) = nb a + nb b := by unfold nb; exact List.countP_append
theorem nb_cons (a : UInt8) (b : Bs) : nb (a :: b) = (if (!(a == 32 || a == 10)) = true then 1 else 0) + nb b := by unfold nb; rw [List.countP_cons]; omega
theorem nb_le (a : Bs) : nb a ≤ a.length := List.countP_le_length
theorem nb_blank {a : Bs} (h : blank a) : nb a = 0 := by
  unfold nb
  rw [List.countP_eq_zero]
  intro c hc
  rcases h c hc with rfl | rfl <;> decide
def sumL (ks : List (Nat × Bs)) : Nat := (ks.map fun y => y.2.length).sum
def sumN (ks : List (Nat × Bs)) : Nat := (ks.map fun y => nb y.2).sum
theorem flat_len (s : Bs) (ks : List (Nat × Bs)) : (ks.flatMap fun y => s ++ y.2).length = sumL ks + ks.length * s.length := by
  induction ks with
  | nil => simp [sumL]
  | cons y l ih =>
    simp only [List.flatMap_cons, List.length_append, ih, sumL, List.map_cons, List.sum_cons, List.length_cons, Nat.add_mul, Nat.one_mul]
    omega
theorem flat_nb (s : Bs) (ks : List (Nat × Bs)) : sumN ks ≤ nb (ks.flatMap fun y => s ++ y.2) := by
  induction ks with
  | nil => simp [sumN]
  | cons y l ih =>
    simp only [sumN] at ih
    simp only [List.flatMap_cons, nb_app, sumN, List.map_cons, List.sum_cons]
    omega
theorem cm_len (ks : List (Nat × Bs)) : (cm ks).length ≤ sumL ks + ks.length * 2 := by
  cases ks with
  | nil => simp [cm, sumL]
  | cons y l =>
    unfold cm
    rw [List.length_append, flat_len]
    simp only [sumL, List.map_cons, List.sum_cons, List.length_cons, List.length_nil]
    omega
theorem cm_nb (ks : List (Nat × Bs)) : sumN ks ≤ nb (cm ks) := by
  cases ks with
  | nil => simp [cm, sumN]
  | cons y l =>
    unfold cm
    have := flat_nb [44, 32] l
    rw [nb_app]
    simp only [sumN, List.map_cons, List.sum_cons] at this ⊢
    omega
theorem line_len (d : Nat) : (lineB d).length = 2 * d + 1 := by simp [lineB]
theorem lines_len (d : Nat) (ks : List (Nat × Bs)) : (linesB d ks).length = sumL ks + ks.length * (2 * d + 1) := by
  unfold linesB; rw [flat_len, line_len]
theorem wr_len (t : Nat × Bs) : (wrB t).length ≤ 2 + t.2.length := by unfold wrB; split <;> simp; omega
theorem wr_nb {t : Nat × Bs} (h : t.1 = 0 → t.2 = []) : nb t.2 ≤ nb (wrB t) := by
  unfold wrB
  split
  · rename_i hz; rw [h hz]; exact Nat.le_refl _
  · rw [nb_app]; omega
theorem fn_len (ks : List (Nat × Bs)) : (fnB ks).length ≤ 3 + sumL ks := by
  unfold fnB
  split
  · rename_i p t b
    have := wr_len t
    simp only [List.length_append, List.length_cons, List.length_nil, sumL, List.map_cons, List.sum_cons, List.map_nil, List.sum_nil]
    omega
  · simp
theorem last_len : ∀ ks : List (Nat × Bs), sumL ks.dropLast + (((ks.getLast?.map Prod.snd).getD [])).length = sumL ks ∧ ks.dropLast.length ≤ ks.length
  | [] => by simp [sumL]
  | [a] => by simp [sumL]
  | a :: b :: l => by
    obtain ⟨h1, h2⟩ := last_len (b :: l)
    rw [List.dropLast_cons_of_ne_nil (by simp), List.getLast?_cons_cons]
    simp only [sumL, List.map_cons, List.sum_cons, List.length_cons] at *
    omega
theorem last_nb : ∀ ks : List (Nat × Bs), sumN ks.dropLast + nb ((ks.getLast?.map Prod.snd).getD []) = sumN ks
  | [] => by simp [sumN, nb]
  | [a] => by simp [sumN]
  | a :: b :: l => by
    have h1 := last_nb (b :: l)
    rw [List.dropLast_cons_of_ne_nil (by simp), List.getLast?_cons_cons]
    simp only [sumN, List.map_cons, List.sum_cons] at *
    omega
theorem sign_len (k : Nat) : (signB k).length ≤ 2 := by
  unfold signB
  split
  · decide
  · split
    · decide
    · split
      · decide
      · split <;> decide
set_option maxHeartbeats 2000000 in
theorem node_len (d : Nat) (h : Hd) (ks : List (Nat × Bs)) : (nodeB d h ks).length ≤ (wB h).length + 40 + (2 * d + 8) + sumL ks + ks.length * (2 * d + 8) := by
  have c1 := cm_len ks
  have c2 := lines_len (d + 1) ks
  have c3 := fn_len ks
  have c4 := sign_len h.kind
  have c5 := line_len d
  have c6 := last_len ks
  have c7 := cm_len ks.dropLast
  have m1 : ks.length * 2 ≤ ks.length * (2 * d + 8) := Nat.mul_le_mul_left _ (by omega)
  have m2 : ks.dropLast.length * 2 ≤ ks.length * 2 := Nat.mul_le_mul_right _ c6.2
  have m3 : ks.length * (2 * (d + 1) + 1) ≤ ks.length * (2 * d + 8) := Nat.mul_le_mul_left _ (by omega)
  unfold nodeB
  split
  all_goals first
    | omega
    | (simp only [List.length_append, List.length_cons, List.length_nil]; omega)
    | (split <;> simp only [List.length_append, List.length_cons, List.length_nil, sumL, List.map_cons, List.sum_cons, List.map_nil, List.sum_nil] <;> omega)
    | (split
       · rename_i t
         have := wr_len t
         simp only [List.length_append, List.length_cons, List.length_nil, sumL, List.map_cons, List.sum_cons, List.map_nil, List.sum_nil]; omega
       · simp only [List.length_nil]; omega)
    | (split
       · rename_i t e
         have := wr_len t
         simp only [List.length_append, List.length_cons, List.length_nil, sumL, List.map_cons, List.sum_cons, List.map_nil, List.sum_nil]; omega
       · simp only [List.length_nil]; omega)
    | (split
       · split <;> simp only [List.length_append, List.length_cons, List.length_nil, sumL, List.map_cons, List.sum_cons, List.map_nil, List.sum_nil] <;> omega
       · simp only [List.length_nil]; omega)
    | (split
       · rename_i a l
         have := cm_len l
         have m4 : l.length * 2 ≤ l.length * (2 * d + 8) := Nat.mul_le_mul_left _ (by omega)
         simp only [List.length_append, List.length_cons, List.length_nil, sumL, List.map_cons, List.sum_cons, Nat.add_mul] at *; omega
       · simp only [List.length_nil]; omega)
    | (split <;> simp only [List.length_append, List.length_cons, List.length_nil] <;> omega)
    | skip
theorem map0 {ks : List (Nat × Bs)} (h : ks.map Prod.fst = []) : ks = [] := List.map_eq_nil_iff.mp h
theorem mapc {ks : List (Nat × Bs)} {a : Nat} {l : List Nat} (h : ks.map Prod.fst = a :: l) : ∃ u r, ks = (a, u) :: r := by
  cases ks with
  | nil => cases h
  | cons y r =>
    obtain ⟨y1, y2⟩ := y
    injection h with h1 h2
    dsimp only at h1
    subst h1
    exact ⟨y2, r, rfl⟩
theorem map1 {ks : List (Nat × Bs)} {a : Nat} (h : ks.map Prod.fst = [a]) : ∃ u, ks = [(a, u)] := by
  obtain ⟨u, r, rfl⟩ := mapc h
  obtain rfl := map0 (List.cons.inj h).2
  exact ⟨u, rfl⟩
theorem map2 {ks : List (Nat × Bs)} {a b : Nat} (h : ks.map Prod.fst = [a, b]) : ∃ u v, ks = [(a, u), (b, v)] := by
  obtain ⟨u, r, rfl⟩ := mapc h
  obtain ⟨v, rfl⟩ := map1 (List.cons.inj h).2
  exact ⟨u, v, rfl⟩
theorem map3 {ks : List (Nat × Bs)} {a b c : Nat} (h : ks.map Prod.fst = [a, b, c]) : ∃ u v z, ks = [(a, u), (b, v), (c, z)] := by
  obtain ⟨u, r, rfl⟩ := mapc h
  obtain ⟨v, z, rfl⟩ := map2 (List.cons.inj h).2
  exact ⟨u, v, z, rfl⟩
theorem if_nb {o : Nat × Bs} (h : o.1 = 0 → o.2 = []) : nb o.2 ≤ nb (if o.1 = 0 then ([] : Bs) else [32, 101, 108, 115, 101, 32] ++ o.2) := by
  split
  · rename_i hz; rw [h hz]; exact Nat.le_refl _
  · rw [nb_app]; omega
set_option maxHeartbeats 4000000 in
theorem node_nb (d : Nat) (h : Hd) (ks : List (Nat × Bs)) (hk : h.kind ≠ 0) (h1 : h.kind ≠ 1) (hs : shp h.kind (ks.map Prod.fst)) (h0 : ∀ y ∈ ks, y.1 = 0 → y.2 = []) (hw : (named h.kind = true ∨ h.kind = 21 ∨ h.kind = 22) → 1 ≤ nb (wB h)) : 1 + sumN ks ≤ nb (nodeB d h ks) := by
  obtain ⟨x1, h2, h3, h4, h5⟩ := h
  dsimp only at hk h1 hs hw
  have hx : x1 ≤ 34 := by
    rcases Nat.lt_or_ge 34 x1 with h | h
    · exfalso
      obtain ⟨n, rfl⟩ : ∃ n, x1 = n + 35 := ⟨x1 - 35, by omega⟩
      simp [shp] at hs
    · exact h
  generalize hW : wB _ = W at hw
  rcases (by omega : x1 = 2 ∨ x1 = 3 ∨ x1 = 4 ∨ x1 = 5 ∨ x1 = 6 ∨ x1 = 7 ∨ x1 = 8 ∨ x1 = 9 ∨ x1 = 10 ∨ x1 = 11 ∨ x1 = 12 ∨ x1 = 13 ∨ x1 = 14 ∨ x1 = 15 ∨ x1 = 16 ∨ x1 = 17 ∨ x1 = 18 ∨ x1 = 19 ∨ x1 = 20 ∨ x1 = 21 ∨ x1 = 22 ∨ x1 = 23 ∨ x1 = 24 ∨ x1 = 25 ∨ x1 = 26 ∨ x1 = 27 ∨ x1 = 28 ∨ x1 = 29 ∨ x1 = 30 ∨ x1 = 31 ∨ x1 = 32 ∨ x1 = 33 ∨ x1 = 34) with rfl | rfl | rfl | rfl | rfl | rfl | rfl | rfl | rfl | rfl | rfl | rfl | rfl | rfl | rfl | rfl | rfl | rfl | rfl | rfl | rfl | rfl | rfl | rfl | rfl | rfl | rfl | rfl | rfl | rfl | rfl | rfl | rfl
  · skip
    obtain ⟨u, rfl⟩ := map1 hs
    have z0 : nb [117, 115, 101, 32] = 3 := rfl
    simp only [nodeB, hW, nb_app, sumN, List.map_cons, List.sum_cons, List.map_nil, List.sum_nil, Nat.reduceEqDiff] at *
    omega
  · skip
    obtain ⟨t, hs, _⟩ := hs
    obtain ⟨u, v, z, rfl⟩ := map3 hs
    have g := wr_nb (h0 _ (List.mem_cons_of_mem _ List.mem_cons_self))
    have z0 : nb [100, 101, 102, 32] = 3 := rfl
    simp only [nodeB, hW, fnB, nb_app, sumN, List.map_cons, List.sum_cons, List.map_nil, List.sum_nil, Nat.reduceEqDiff] at *
    omega
  · skip
    have g := cm_nb ks
    have z0 : nb [40] = 1 := rfl
    simp only [nodeB, hW, nb_app, sumN, Nat.reduceEqDiff] at *
    omega
  · skip
    obtain ⟨t, hs, _⟩ := hs
    obtain ⟨u, rfl⟩ := map1 hs
    have g := wr_nb (h0 _ List.mem_cons_self)
    have z0 := hw (by decide)
    simp only [nodeB, hW, nb_app, sumN, List.map_cons, List.sum_cons, List.map_nil, List.sum_nil, Nat.reduceEqDiff] at *
    omega
  · skip
    have g := flat_nb (lineB (d + 1)) ks
    have z0 : nb [123] = 1 := rfl
    simp only [nodeB, hW, linesB, nb_app, sumN, Nat.reduceEqDiff] at *
    omega
  · skip
    obtain ⟨t, e, hs, _, _⟩ := hs
    obtain ⟨u, v, rfl⟩ := map2 hs
    have g := wr_nb (h0 _ List.mem_cons_self)
    have z0 : nb [108, 101, 116, 32] = 3 := rfl
    simp only [nodeB, hW, nb_app, sumN, List.map_cons, List.sum_cons, List.map_nil, List.sum_nil, Nat.reduceEqDiff] at *
    omega
  · skip
    obtain ⟨e, hs, _⟩ := hs
    obtain ⟨u, rfl⟩ := map1 hs
    have z0 : nb [32, 61, 32] = 1 := rfl
    simp only [nodeB, hW, nb_app, sumN, List.map_cons, List.sum_cons, List.map_nil, List.sum_nil, Nat.reduceEqDiff] at *
    omega
  · skip
    obtain ⟨c, o, hs, _, _⟩ := hs
    obtain ⟨u, v, z, rfl⟩ := map3 hs
    have g := if_nb (h0 _ (List.mem_cons_of_mem _ (List.mem_cons_of_mem _ List.mem_cons_self)))
    have z0 : nb [105, 102, 32] = 2 := rfl
    simp only [nodeB, hW, nb_app, sumN, List.map_cons, List.sum_cons, List.map_nil, List.sum_nil, Nat.reduceEqDiff] at *
    omega
  · skip
    obtain ⟨c, hs, _⟩ := hs
    obtain ⟨u, v, rfl⟩ := map2 hs
    have z0 : nb [119, 104, 105, 108, 101, 32] = 5 := rfl
    simp only [nodeB, hW, nb_app, sumN, List.map_cons, List.sum_cons, List.map_nil, List.sum_nil, Nat.reduceEqDiff] at *
    omega
  · skip
    obtain ⟨e, hs, _⟩ := hs
    obtain ⟨u, rfl⟩ := map1 hs
    have z0 : nb [112, 114, 105, 110, 116, 32] = 5 := rfl
    simp only [nodeB, hW, nb_app, sumN, List.map_cons, List.sum_cons, List.map_nil, List.sum_nil, Nat.reduceEqDiff] at *
    omega
  · skip
    obtain ⟨e, hs, _⟩ := hs
    obtain ⟨u, rfl⟩ := map1 hs
    have z0 : nb [114, 101, 116, 117, 114, 110, 32] = 6 := rfl
    simp only [nodeB, hW, nb_app, sumN, List.map_cons, List.sum_cons, List.map_nil, List.sum_nil, Nat.reduceEqDiff] at *
    omega
  · skip
    obtain ⟨e, hs, _⟩ := hs
    obtain ⟨u, rfl⟩ := map1 hs
    have z0 : nb [59] = 1 := rfl
    simp only [nodeB, hW, nb_app, sumN, List.map_cons, List.sum_cons, List.map_nil, List.sum_nil, Nat.reduceEqDiff] at *
    omega
  · skip
    obtain ⟨a, b, hs, _, _⟩ := hs
    obtain ⟨u, v, rfl⟩ := map2 hs
    have z0 : nb [60] = 1 := rfl
    simp only [nodeB, hW, signB, nb_app, sumN, List.map_cons, List.sum_cons, List.map_nil, List.sum_nil, ite_true, ite_false, Nat.reduceEqDiff] at *
    omega
  · skip
    obtain ⟨a, b, hs, _, _⟩ := hs
    obtain ⟨u, v, rfl⟩ := map2 hs
    have z0 : nb [61, 61] = 2 := rfl
    simp only [nodeB, hW, signB, nb_app, sumN, List.map_cons, List.sum_cons, List.map_nil, List.sum_nil, ite_true, ite_false, Nat.reduceEqDiff] at *
    omega
  · skip
    obtain ⟨a, b, hs, _, _⟩ := hs
    obtain ⟨u, v, rfl⟩ := map2 hs
    have z0 : nb [43] = 1 := rfl
    simp only [nodeB, hW, signB, nb_app, sumN, List.map_cons, List.sum_cons, List.map_nil, List.sum_nil, ite_true, ite_false, Nat.reduceEqDiff] at *
    omega
  · skip
    obtain ⟨a, b, hs, _, _⟩ := hs
    obtain ⟨u, v, rfl⟩ := map2 hs
    have z0 : nb [45] = 1 := rfl
    simp only [nodeB, hW, signB, nb_app, sumN, List.map_cons, List.sum_cons, List.map_nil, List.sum_nil, ite_true, ite_false, Nat.reduceEqDiff] at *
    omega
  · skip
    obtain ⟨a, b, hs, _, _⟩ := hs
    obtain ⟨u, v, rfl⟩ := map2 hs
    have z0 : nb [42] = 1 := rfl
    simp only [nodeB, hW, signB, nb_app, sumN, List.map_cons, List.sum_cons, List.map_nil, List.sum_nil, ite_false, Nat.reduceEqDiff] at *
    omega
  · skip
    obtain ⟨a, hs, _⟩ := hs
    obtain ⟨u, rfl⟩ := map1 hs
    have z0 : nb [46] = 1 := rfl
    simp only [nodeB, hW, nb_app, sumN, List.map_cons, List.sum_cons, List.map_nil, List.sum_nil, Nat.reduceEqDiff] at *
    omega
  · skip
    obtain ⟨a, l, hs, _, _⟩ := hs
    obtain ⟨u, r, rfl⟩ := mapc hs
    have g := cm_nb r
    have z0 : nb [40] = 1 := rfl
    simp only [nodeB, hW, nb_app, sumN, List.map_cons, List.sum_cons, Nat.reduceEqDiff] at *
    omega
  · skip
    obtain rfl := map0 hs
    have z0 := hw (by decide)
    simp only [nodeB, hW, sumN, List.map_nil, List.sum_nil, Nat.reduceEqDiff] at *
    omega
  · skip
    obtain rfl := map0 hs
    have z0 := hw (by decide)
    simp only [nodeB, hW, sumN, List.map_nil, List.sum_nil, Nat.reduceEqDiff] at *
    omega
  · skip
    obtain rfl := map0 hs
    have z0 := hw (by decide)
    simp only [nodeB, hW, sumN, List.map_nil, List.sum_nil, Nat.reduceEqDiff] at *
    omega
  · skip
    obtain rfl := map0 hs
    have z0 : nb [105, 110, 112, 117, 116] = 5 := rfl
    simp only [nodeB, hW, sumN, List.map_nil, List.sum_nil, Nat.reduceEqDiff] at *
    omega
  · skip
    obtain ⟨e, hs, _⟩ := hs
    obtain ⟨u, rfl⟩ := map1 hs
    have g := cm_nb [(e, u)]
    have z0 : nb [40] = 1 := rfl
    simp only [nodeB, hW, nb_app, sumN, List.map_cons, List.sum_cons, List.map_nil, List.sum_nil, Nat.reduceEqDiff] at *
    omega
  · skip
    have g := cm_nb ks
    have z0 : nb [123] = 1 := rfl
    simp only [nodeB, hW, nb_app, sumN, Nat.reduceEqDiff] at *
    omega
  · skip
    obtain ⟨e, hs, _⟩ := hs
    obtain ⟨u, rfl⟩ := map1 hs
    have z0 : nb [58, 32] = 1 := rfl
    simp only [nodeB, hW, nb_app, sumN, List.map_cons, List.sum_cons, List.map_nil, List.sum_nil, Nat.reduceEqDiff] at *
    omega
  · skip
    obtain ⟨t, hs, _⟩ := hs
    obtain ⟨u, v, z, rfl⟩ := map3 hs
    have g := wr_nb (h0 _ (List.mem_cons_of_mem _ List.mem_cons_self))
    have z0 : nb [102, 110] = 2 := rfl
    simp only [nodeB, hW, fnB, nb_app, sumN, List.map_cons, List.sum_cons, List.map_nil, List.sum_nil, Nat.reduceEqDiff] at *
    omega
  · skip
    obtain rfl := map0 hs
    have z0 : nb [105, 110, 116] = 3 := rfl
    simp only [nodeB, hW, sumN, List.map_nil, List.sum_nil, Nat.reduceEqDiff] at *
    omega
  · skip
    obtain rfl := map0 hs
    have z0 : nb [115, 116, 114] = 3 := rfl
    simp only [nodeB, hW, sumN, List.map_nil, List.sum_nil, Nat.reduceEqDiff] at *
    omega
  · skip
    obtain rfl := map0 hs
    have z0 : nb [100, 121, 110] = 3 := rfl
    simp only [nodeB, hW, sumN, List.map_nil, List.sum_nil, Nat.reduceEqDiff] at *
    omega
  · skip
    have g := cm_nb ks
    have z0 : nb [123] = 1 := rfl
    simp only [nodeB, hW, nb_app, sumN, Nat.reduceEqDiff] at *
    omega
  · skip
    obtain ⟨t, hs, _⟩ := hs
    obtain ⟨u, rfl⟩ := map1 hs
    have z0 : nb [58, 32] = 1 := rfl
    simp only [nodeB, hW, nb_app, sumN, List.map_cons, List.sum_cons, List.map_nil, List.sum_nil, Nat.reduceEqDiff] at *
    omega
  · skip
    have g := cm_nb ks.dropLast
    have g2 := last_nb ks
    have z0 : nb [102, 110, 40] = 3 := rfl
    simp only [nodeB, hW, nb_app, sumN, Nat.reduceEqDiff] at *
    omega
end Ps
end Go.Proofs.YtiabkkdeonepgaaGreatDoor
namespace Go.Proofs.YtiabkkdeonepgaaGreatDoor
open Go.RowKit
namespace Ps
open Pg
theorem wrd_first {h : Hd} (hw : wrd h) (hk : named h.kind = true ∨ h.kind = 21 ∨ h.kind = 22) : ∃ c, c ≠ 0 ∧ firstL (wB h) = (c, (wB h).length, 0) := by
  unfold wrd at hw
  split at hw
  · exact ⟨1, by decide, hw⟩
  · split at hw
    · exact ⟨3, by decide, hw.1⟩
    · split at hw
      · exact ⟨4, by decide, hw.1⟩
      · rename_i h1 h2 h3
        rcases hk with hk | hk | hk
        · exact absurd hk h1
        · exact absurd hk h2
        · exact absurd hk h3
theorem wrd_len {h : Hd} (hw : wrd h) : (wB h).length ≤ 16384 := by
  unfold wrd at hw
  split at hw
  · have := (word_facts hw).2.2.2.1; omega
  · have key : okW h.word → (wB h).length ≤ 16384 := fun q => by
      have := q.2
      show h.word.data.toList.length ≤ _
      simpa using this
    split at hw
    · exact key hw.2
    · split at hw
      · exact key hw.2
      · show h.word.data.toList.length ≤ _
        rw [hw]
        exact Nat.zero_le _
theorem first_nb {l : Bs} {c n : Nat} (h : firstL l = (c, n, 0)) (hc : c ≠ 0) : 1 ≤ nb l := by
  cases l with
  | nil =>
    exfalso
    exact hc (congrArg Prod.fst h).symm
  | cons b t =>
    rw [nb_cons]
    by_cases hb : (!(b == 32 || b == 10)) = true
    · rw [if_pos hb]; omega
    · exfalso
      have h2 : b = 32 ∨ b = 10 := by
        exact Decidable.or_iff_not_imp_left.mpr (by simpa using hb)
      have h3 : firstL (b :: t) = (0, 0, 21) := by
        rcases h2 with rfl | rfl <;> rfl
      rw [h3] at h
      exact hc (congrArg Prod.fst h).symm
def cnt : Fo → Nat
  | .nil => 0
  | .cons _ k r => 1 + cnt k + cnt r
def nones (l : List Nat) : Nat := l.countP (· == 0)
theorem nones0 {l : List Nat} (h : ∀ y ∈ l, y ≠ 0) : nones l = 0 := by
  unfold nones
  rw [List.countP_eq_zero]
  intro y hy
  simpa using h y hy
theorem prt_len (d : Nat) (f : Fo) : (prt d f).length = f.len := by
  have := congrArg List.length (prt_kinds d f)
  rw [List.length_map, kinds_len] at this
  exact this
theorem prt_none : ∀ (d : Nat) (f : Fo) (y : Nat × Bs), y ∈ prt d f → y.1 = 0 → y.2 = []
  | _, .nil, y, h, _ => by simp [prt] at h
  | d, .cons h k r, y, hy, h0 => by
    rw [prt] at hy
    rcases List.mem_cons.1 hy with hy | hy
    · subst hy
      dsimp only at h0 ⊢
      obtain ⟨x1, x2, x3, x4, x5⟩ := h
      dsimp only at h0
      subst h0
      rfl
    · exact prt_none d r y hy h0
theorem shp_kids {x : Nat} {ks : List Nat} (h0 : x ≠ 0) (h1 : x ≠ 1) (hs : shp x ks) : (∀ y ∈ ks, y ≠ 1) ∧ nones ks ≤ 1 := by
  have hx := Pg.shp_le hs
  rcases (by omega : x = 2 ∨ x = 3 ∨ x = 4 ∨ x = 5 ∨ x = 6 ∨ x = 7 ∨ x = 8 ∨ x = 9 ∨ x = 10 ∨ x = 11 ∨ x = 12 ∨ x = 13 ∨ x = 14 ∨ x = 15 ∨ x = 16 ∨ x = 17 ∨ x = 18 ∨ x = 19 ∨ x = 20 ∨ x = 21 ∨ x = 22 ∨ x = 23 ∨ x = 24 ∨ x = 25 ∨ x = 26 ∨ x = 27 ∨ x = 28 ∨ x = 29 ∨ x = 30 ∨ x = 31 ∨ x = 32 ∨ x = 33 ∨ x = 34) with rfl | rfl | rfl | rfl | rfl | rfl | rfl | rfl | rfl | rfl | rfl | rfl | rfl | rfl | rfl | rfl | rfl | rfl | rfl | rfl | rfl | rfl | rfl | rfl | rfl | rfl | rfl | rfl | rfl | rfl | rfl | rfl | rfl
  · obtain rfl : ks = [23] := hs
    exact ⟨fun y hy => (by simp at hy; omega), by decide⟩
  · obtain ⟨t, rfl, q⟩ := hs
    unfold nT tyK at q
    refine ⟨fun y hy => (by simp only [List.mem_cons, List.not_mem_nil, or_false] at hy; omega), ?_⟩
    simp only [nones, List.countP_cons, List.countP_nil, beq_iff_eq]
    (repeat' split) <;> omega
  · exact ⟨fun y hy => (by have := hs y hy; omega), by rw [nones0 (fun y hy => by have := hs y hy; omega)]; exact Nat.zero_le _⟩
  · obtain ⟨t, rfl, q⟩ := hs
    unfold nT tyK at q
    refine ⟨fun y hy => (by simp only [List.mem_cons, List.not_mem_nil, or_false] at hy; omega), ?_⟩
    simp only [nones, List.countP_cons, List.countP_nil, beq_iff_eq]
    (repeat' split) <;> omega
  · exact ⟨fun y hy => (by have := hs y hy; omega), by rw [nones0 (fun y hy => by have := hs y hy; omega)]; exact Nat.zero_le _⟩
  · obtain ⟨t, e, rfl, q, r⟩ := hs
    unfold nT tyK at q
    unfold up exK at r
    refine ⟨fun y hy => (by simp only [List.mem_cons, List.not_mem_nil, or_false] at hy; omega), ?_⟩
    simp only [nones, List.countP_cons, List.countP_nil, beq_iff_eq]
    (repeat' split) <;> omega
  · obtain ⟨e, rfl, q⟩ := hs
    unfold up exK at q
    refine ⟨fun y hy => (by simp only [List.mem_cons, List.not_mem_nil, or_false] at hy; omega), ?_⟩
    simp only [nones, List.countP_cons, List.countP_nil, beq_iff_eq]
    (repeat' split) <;> omega
  · obtain ⟨c, o, rfl, q, r⟩ := hs
    unfold up exK at q
    refine ⟨fun y hy => (by simp only [List.mem_cons, List.not_mem_nil, or_false] at hy; omega), ?_⟩
    simp only [nones, List.countP_cons, List.countP_nil, beq_iff_eq]
    (repeat' split) <;> omega
  · obtain ⟨c, rfl, q⟩ := hs
    unfold up exK at q
    refine ⟨fun y hy => (by simp only [List.mem_cons, List.not_mem_nil, or_false] at hy; omega), ?_⟩
    simp only [nones, List.countP_cons, List.countP_nil, beq_iff_eq]
    (repeat' split) <;> omega
  · obtain ⟨e, rfl, q⟩ := hs
    unfold up exK at q
    refine ⟨fun y hy => (by simp only [List.mem_cons, List.not_mem_nil, or_false] at hy; omega), ?_⟩
    simp only [nones, List.countP_cons, List.countP_nil, beq_iff_eq]
    (repeat' split) <;> omega
  · obtain ⟨e, rfl, q⟩ := hs
    unfold up exK at q
    refine ⟨fun y hy => (by simp only [List.mem_cons, List.not_mem_nil, or_false] at hy; omega), ?_⟩
    simp only [nones, List.countP_cons, List.countP_nil, beq_iff_eq]
    (repeat' split) <;> omega
  · obtain ⟨e, rfl, q⟩ := hs
    unfold up exK at q
    refine ⟨fun y hy => (by simp only [List.mem_cons, List.not_mem_nil, or_false] at hy; omega), ?_⟩
    simp only [nones, List.countP_cons, List.countP_nil, beq_iff_eq]
    (repeat' split) <;> omega
  · obtain ⟨a, b, rfl, q, r⟩ := hs
    unfold up exK at q
    unfold up exK at r
    refine ⟨fun y hy => (by simp only [List.mem_cons, List.not_mem_nil, or_false] at hy; omega), ?_⟩
    simp only [nones, List.countP_cons, List.countP_nil, beq_iff_eq]
    (repeat' split) <;> omega
  · obtain ⟨a, b, rfl, q, r⟩ := hs
    unfold up exK at q
    unfold up exK at r
    refine ⟨fun y hy => (by simp only [List.mem_cons, List.not_mem_nil, or_false] at hy; omega), ?_⟩
    simp only [nones, List.countP_cons, List.countP_nil, beq_iff_eq]
    (repeat' split) <;> omega
  · obtain ⟨a, b, rfl, q, r⟩ := hs
    unfold up exK at q
    unfold up exK at r
    refine ⟨fun y hy => (by simp only [List.mem_cons, List.not_mem_nil, or_false] at hy; omega), ?_⟩
    simp only [nones, List.countP_cons, List.countP_nil, beq_iff_eq]
    (repeat' split) <;> omega
  · obtain ⟨a, b, rfl, q, r⟩ := hs
    unfold up exK at q
    unfold up exK at r
    refine ⟨fun y hy => (by simp only [List.mem_cons, List.not_mem_nil, or_false] at hy; omega), ?_⟩
    simp only [nones, List.countP_cons, List.countP_nil, beq_iff_eq]
    (repeat' split) <;> omega
  · obtain ⟨a, b, rfl, q, r⟩ := hs
    unfold up exK at q
    unfold up exK at r
    refine ⟨fun y hy => (by simp only [List.mem_cons, List.not_mem_nil, or_false] at hy; omega), ?_⟩
    simp only [nones, List.countP_cons, List.countP_nil, beq_iff_eq]
    (repeat' split) <;> omega
  · obtain ⟨a, rfl, q⟩ := hs
    unfold up exK at q
    refine ⟨fun y hy => (by simp only [List.mem_cons, List.not_mem_nil, or_false] at hy; omega), ?_⟩
    simp only [nones, List.countP_cons, List.countP_nil, beq_iff_eq]
    (repeat' split) <;> omega
  · obtain ⟨a, l, rfl, q, r⟩ := hs
    have hq : ∀ y ∈ a :: l, 14 ≤ y := fun y hy => (by
      rcases List.mem_cons.1 hy with rfl | hy
      · exact q.1.1
      · exact (r y hy).1.1)
    exact ⟨fun y hy => (by have := hq y hy; omega), by rw [nones0 (fun y hy => by have := hq y hy; omega)]; exact Nat.zero_le _⟩
  · obtain rfl : ks = [] := hs
    exact ⟨fun y hy => (by cases hy), by decide⟩
  · obtain rfl : ks = [] := hs
    exact ⟨fun y hy => (by cases hy), by decide⟩
  · obtain rfl : ks = [] := hs
    exact ⟨fun y hy => (by cases hy), by decide⟩
  · obtain rfl : ks = [] := hs
    exact ⟨fun y hy => (by cases hy), by decide⟩
  · obtain ⟨e, rfl, q⟩ := hs
    unfold up exK at q
    refine ⟨fun y hy => (by simp only [List.mem_cons, List.not_mem_nil, or_false] at hy; omega), ?_⟩
    simp only [nones, List.countP_cons, List.countP_nil, beq_iff_eq]
    (repeat' split) <;> omega
  · exact ⟨fun y hy => (by have := hs y hy; omega), by rw [nones0 (fun y hy => by have := hs y hy; omega)]; exact Nat.zero_le _⟩
  · obtain ⟨e, rfl, q⟩ := hs
    unfold up exK at q
    refine ⟨fun y hy => (by simp only [List.mem_cons, List.not_mem_nil, or_false] at hy; omega), ?_⟩
    simp only [nones, List.countP_cons, List.countP_nil, beq_iff_eq]
    (repeat' split) <;> omega
  · obtain ⟨t, rfl, q⟩ := hs
    unfold nT tyK at q
    refine ⟨fun y hy => (by simp only [List.mem_cons, List.not_mem_nil, or_false] at hy; omega), ?_⟩
    simp only [nones, List.countP_cons, List.countP_nil, beq_iff_eq]
    (repeat' split) <;> omega
  · obtain rfl : ks = [] := hs
    exact ⟨fun y hy => (by cases hy), by decide⟩
  · obtain rfl : ks = [] := hs
    exact ⟨fun y hy => (by cases hy), by decide⟩
  · obtain rfl : ks = [] := hs
    exact ⟨fun y hy => (by cases hy), by decide⟩
  · exact ⟨fun y hy => (by have := hs y hy; omega), by rw [nones0 (fun y hy => by have := hs y hy; omega)]; exact Nat.zero_le _⟩
  · obtain ⟨t, rfl, q⟩ := hs
    unfold tyK at q
    refine ⟨fun y hy => (by simp only [List.mem_cons, List.not_mem_nil, or_false] at hy; omega), ?_⟩
    simp only [nones, List.countP_cons, List.countP_nil, beq_iff_eq]
    (repeat' split) <;> omega
  · have hq : ∀ y ∈ ks, 29 ≤ y := fun y hy => (hs.2 y hy).1
    exact ⟨fun y hy => (by have := hq y hy; omega), by rw [nones0 (fun y hy => by have := hq y hy; omega)]; exact Nat.zero_le _⟩
theorem len_all : ∀ (f : Fo) (d : Nat), okF f → d + f.deep ≤ 500 → sumL (prt d f) + f.len * 1016 ≤ 20000 * cnt f
  | .nil, d, _, _ => by simp [prt, sumL, Fo.len, cnt]
  | .cons h k r, d, ho, hd => by
    obtain ⟨d', hd'⟩ : ∃ d', d' = (if h.kind = 6 then d + 1 else d) := ⟨_, rfl⟩
    have hdd : d' ≤ d + 1 := by rw [hd']; split <;> omega
    have dk : k.deep + 1 ≤ (Fo.cons h k r).deep ∧ r.deep ≤ (Fo.cons h k r).deep := by
      simp only [Fo.deep]; omega
    have ik := len_all k d' ho.2.1 (by omega)
    have ir := len_all r d ho.2.2 (by omega)
    have nl := node_len d h (prt d' k)
    rw [prt_len] at nl
    have wl := wrd_len ho.1.1
    have m : k.len * (2 * d + 8) ≤ k.len * 1016 := Nat.mul_le_mul_left _ (by omega)
    rw [prt, ← hd']
    simp only [sumL, List.map_cons, List.sum_cons, Fo.len, cnt] at *
    omega
theorem nb_all : ∀ (f : Fo) (d : Nat), okF f → (∀ x ∈ f.kinds, x ≠ 1) → cnt f ≤ 2 * sumN (prt d f) + nones f.kinds
  | .nil, d, _, _ => by simp [cnt]
  | .cons h k r, d, ho, hx => by
    obtain ⟨d', hd'⟩ : ∃ d', d' = (if h.kind = 6 then d + 1 else d) := ⟨_, rfl⟩
    have ir := nb_all r d ho.2.2 (fun x hr => hx x (List.mem_cons_of_mem _ hr))
    have h1 : h.kind ≠ 1 := hx _ List.mem_cons_self
    have es : sumN (prt d (.cons h k r)) = nb (nodeB d h (prt d' k)) + sumN (prt d r) := by
      rw [prt, ← hd']
      simp only [sumN, List.map_cons, List.sum_cons]
    have en : nones (Fo.cons h k r).kinds = nones r.kinds + (if h.kind = 0 then 1 else 0) := by
      simp only [nones, Fo.kinds, List.countP_cons, beq_iff_eq]
    rw [es, en]
    by_cases h0 : h.kind = 0
    · have hk : k.kinds = [] := by have := ho.1.2; rw [h0] at this; exact this
      have hl : k.len = 0 := by rw [← kinds_len, hk]; rfl
      have hn : k = .nil := by
        cases k with
        | nil => rfl
        | cons _ _ _ => simp [Fo.len] at hl
      subst hn
      rw [if_pos h0]
      simp only [cnt] at *
      omega
    · obtain ⟨k1, k2⟩ := shp_kids h0 h1 ho.1.2
      have ik := nb_all k d' ho.2.1 k1
      have nn := node_nb d h (prt d' k) h0 h1 (by rw [prt_kinds]; exact ho.1.2) (prt_none d' k) (fun q => by
        obtain ⟨c, c1, c2⟩ := wrd_first ho.1.1 q
        exact first_nb c2 c1)
      rw [if_neg h0]
      simp only [cnt]
      omega
theorem items_len : ∀ (a : Option Nat) (ks : List (Nat × Bs)), (itemsB a ks).length ≤ sumL ks + ks.length * 2
  | _, [] => by simp [itemsB]
  | a, x :: l => by
    have := items_len (some x.1) l
    rw [itemsB]
    simp only [List.length_append, List.length_cons, List.length_nil, sumL, List.map_cons, List.sum_cons] at *
    split <;> simp <;> omega
theorem items_nb : ∀ (a : Option Nat) (ks : List (Nat × Bs)), sumN ks ≤ nb (itemsB a ks)
  | _, [] => by simp [sumN]
  | a, x :: l => by
    have := items_nb (some x.1) l
    rw [itemsB]
    simp only [nb_app, sumN, List.map_cons, List.sum_cons] at *
    omega
theorem file_len {k : Fo} {M : Nat} (ho : okF k) (hk : ∀ x ∈ k.kinds, x = 2 ∨ x = 3) (hd : k.deep ≤ 500) (hn : nb (fileB k) ≤ M) : (fileB k).length ≤ 40000 * M := by
  have h1 := items_len none (prt 0 k)
  have h2 := items_nb none (prt 0 k)
  have h3 := len_all k 0 ho (by omega)
  have h4 := nb_all k 0 ho (fun x hx => by have := hk x hx; omega)
  have h5 : nones k.kinds = 0 := nones0 (fun x hx => by have := hk x hx; omega)
  rw [prt_len] at h1
  unfold fileB at hn ⊢
  omega
variable {l : List Tok}
theorem Sg.nb (F : LexOk l) {i j : Nat} {bs : Bs} (h : Sg l i j bs) : nb bs ≤ (j - i) * 16384 := by
  induction h with
  | one i h =>
    have e : i + 1 - i = 1 := by omega
    rw [e, Nat.one_mul]
    rcases Nat.lt_or_ge (i + 1) l.length with h1 | h1
    · exact Nat.le_trans (nb_le _) (F.sz i h1)
    · have h2 := (F.fin i h (by omega)).2
      have : txt l i = [] := by
        unfold txt textAt
        rw [List.getElem?_eq_getElem h]
        simp only [Option.map_some, Option.getD_some, h2]
      rw [this]
      exact Nat.zero_le _
  | @two i j k bs sep cs h1 h2 hb hs i1 i2 =>
    have l1 := h1.lt
    have l2 := h2.lt
    rw [nb_app, nb_app, nb_blank hb]
    have : (k - i) * 16384 = (j - i) * 16384 + (k - j) * 16384 := by rw [← Nat.add_mul]; congr 1; omega
    omega
theorem print_len {s : ByteArray} {h : Hd} {k : Fo} (hs : ofM s = .ok l h k) : (fileB k).length ≤ 2630000000000 := by
  obtain ⟨ho, h1, hd, hf, _⟩ := print_of hs
  have hk : ∀ x ∈ k.kinds, x = 2 ∨ x = 3 := by
    have : shp h.kind k.kinds := ho.1.2
    rw [h1] at this
    exact this
  have hn : Ps.nb (fileB k) ≤ 65600000 := by
    by_cases hz : k = .nil
    · rw [hz]; exact Nat.zero_le _
    · obtain ⟨i, cs, hi, F, hg, e⟩ := hf hz
      rw [e, nb_app]
      have := hg.nb F
      have e2 : Ps.nb [10] = 0 := rfl
      omega
  have := file_len ho.2.1 hk (by omega) hn
  omega
end Ps
end Go.Proofs.YtiabkkdeonepgaaGreatDoor
