/- Contracts of the law DeltaNames: rows of tokens and edits, places of tokens. -/
import Derived.Test.YthbmnnnlkgbieaaGreatDoorRI
import Derived.Test.YthbmnnnlkgbieaaGreatDoorDV
namespace Go.Proofs.YthbmnnnlkgbieaaGreatDoor
open Go.RowKit

/-- Two rows of cells of two types lie apart. -/
theorem own_apart {w : World} {b1 b2 e1 e2 s1 s2 n m : Nat} {u v : Value} {xs ys : List Value} (h1 : w.ownsRow b1 e1 s1 u n xs) (h2 : w.ownsRow b2 e2 s2 v m ys) (he : e1 ≠ e2) : u.ownBlock = none ∨ u.ownBlock ≠ v.ownBlock := by
  rcases h1.2 with ⟨rfl, _⟩ | ⟨g, cap, cur, rfl, _, hg, _⟩
  · exact .inl rfl
  · refine .inr fun e => ?_
    rcases h2.2 with ⟨rfl, _⟩ | ⟨g', cap', cur', rfl, _, hg', _⟩
    · simp [Value.ownBlock] at e
    · simp only [Value.ownBlock, Option.some.injEq] at e
      subst e
      rw [hg] at hg'
      simp at hg'
      exact he hg'.2
theorem own_rowb {w : World} {b e1 e2 sz n g : Nat} {v : Value} {xs : List Value} {cs : Array Value} (h : w.ownsRow b e1 sz v n xs) (hr : RowB w g e2 cs) (he : e1 ≠ e2) : v.ownBlock ≠ some g := by
  intro e
  rcases h.2 with ⟨rfl, _⟩ | ⟨g', cap, cur, rfl, _, hg, _⟩
  · simp [Value.ownBlock] at e
  · simp only [Value.ownBlock, Option.some.injEq] at e
    subst e
    have hr' : w.heap[g']? = _ := hr
    rw [hg] at hr'
    simp at hr'
    exact he hr'.2
theorem Step.size_le {s : ByteArray} {k k' : Nat} {t : Tok} (h : Step s k t k') : t.at_ ≤ s.size ∧ t.text.size ≤ s.size ∧ (t.kind = 1 → NL t.text) := by
  obtain ⟨h1, h2, h3, h4, h5⟩ := h
  obtain ⟨_, _, h8, h9, _, h11⟩ := h5
  refine ⟨by omega, by rw [h4, size_ext s h9]; omega, fun hk => ⟨by rw [h4, size_ext s h9]; omega, ?_⟩⟩
  rw [h4, gb_ext s h8]
  cases hl : letN (gb s (atK s k) : Int)
  · have := h11 hl; omega
  · rfl
theorem Up.size_le {s : ByteArray} {D : List Tok} {k : Nat} (h : Up s D k) : ∀ t ∈ D, t.at_ ≤ s.size ∧ t.text.size ≤ s.size ∧ (t.kind = 1 → NL t.text) := by
  induction h with
  | nil => intro t ht; cases ht
  | snoc hu hs ih =>
    intro t ht
    rcases List.mem_append.1 ht with h | h
    · exact ih t h
    · rw [List.mem_singleton.1 h]; exact hs.size_le
theorem RLex.size_le {s : ByteArray} {l : List Tok} (h : RLex s l) : ∀ t ∈ l, t.at_ ≤ s.size ∧ t.text.size ≤ s.size ∧ (t.kind = 1 → NL t.text) := by
  obtain ⟨D, k, t, hu, ⟨ha, rfl⟩, rfl⟩ := h
  intro x hx
  rcases List.mem_append.1 hx with h | h
  · exact hu.size_le x h
  · rw [List.mem_singleton.1 h]
    refine ⟨Nat.le_refl _, ?_, fun h => by cases h⟩
    dsimp only
    rw [size_ext s (Nat.le_refl _)]; omega
/-- What the document's IsName says. -/
theorem rnameL_nl {s : ByteArray} (h : rnameL s.data.toList = true) : NL s ∧ s.size ≤ 40 := by
  unfold rnameL at h
  rw [len_list] at h
  simp only [Bool.and_eq_true, Bool.not_eq_true', Bool.or_eq_false_iff, decide_eq_false_iff_not] at h
  obtain ⟨⟨⟨⟨h1, h2⟩, h3⟩, h4⟩, h5⟩ := h
  have h0 : 0 < s.size := by omega
  refine ⟨⟨h0, ?_⟩, by omega⟩
  have hw := allW_take h0 h5
  rw [gb_of s 0 h0] at hw
  have e : (s.data.toList.getD 0 0).toNat = gb s 0 := rfl
  rw [e] at h4
  unfold wdN at hw
  rw [h4, Bool.or_false] at hw
  exact hw
theorem szs_ren (wd nm : ByteArray) : ∀ u : List ByteArray, szs (u.map (ren1 wd nm)) ≤ szs u + u.length * nm.size
  | [] => by simp [szs]
  | x :: u => by
    have ih := szs_ren wd nm u
    have e1 : szs (x :: u) = x.size + szs u := by simp [szs]
    have e2 : szs ((x :: u).map (ren1 wd nm)) = (ren1 wd nm x).size + szs (u.map (ren1 wd nm)) := by simp [szs]
    have e3 : (ren1 wd nm x).size ≤ x.size + nm.size := by unfold ren1; split <;> omega
    rw [e1, e2, List.length_cons, Nat.succ_mul]
    omega
/-- What Between answers of a text's tokens and those with the other word. -/
theorem betn_any (s : ByteArray) (l : List Tok) (wd nm : ByteArray) (A B : Option Addr) (ca cb : Nat) (w : World) (hA : TokS w s l A ca) (hB : TokAt w B (l.map (ren wd nm))) (hcb : l.length ≤ cb) (hw : NL wd) (hn : NL nm) (hn40 : nm.size ≤ 40) (hno : ∀ t ∈ l, t.text ≠ nm) (hl : l.length ≤ 300) :
    Calls Tryz.prog 9 #[.slice A l.length ca, .slice B l.length cb] w fun e w' => ∃ X c, e = .returned (.slice X (wants wd nm l).length c) ∧ Eds w' w'.heap.size X (wants wd nm l) ∧ (wants wd nm l).length ≤ c ∧ Below w.heap.size w w' := by
  have hz : szs (unitsL l) = s.size := hA.1.is.size.symm
  have hs := hA.2.1
  have hr := ren_units hw hn l hA.1.leads
  have hz2 : szs (unitsL (l.map (ren wd nm))) ≤ 1000000000 := by
    have h1 := szs_ren wd nm (unitsL l)
    have h2 := unitsL_len l
    have h3 : (unitsL l).length * nm.size ≤ 600 * 40 := Nat.mul_le_mul (by omega) hn40
    rw [hr]
    omega
  have h := between_any l (l.map (ren wd nm)) A B ca cb w hA.2.2.1 hB (by omega) (by rw [List.length_map]; omega) hA.2.2.2.2 (by rw [List.length_map]; exact hcb) (fun x hx => by have := size_mem _ _ hx; unfold maxLen; omega) (fun x hx => by have := size_mem _ _ hx; unfold maxLen; omega) (by omega) hz2
  rw [List.length_map] at h
  refine h.mono ?_
  rintro e w' ⟨G, v, hG, rfl, hO, hb⟩
  rw [names_only hA.1 hw hn hno hl hG] at hO
  obtain ⟨X, c, rfl, hc⟩ := own_frm hO
  exact ⟨X, c, rfl, Eds.of_own hO rfl, hc, hb⟩
theorem cells_ed (w : World) (a b c : Value) (j : Nat) (u : Value) (hj : [a, b, c][j]? = some u) : (w.alloc (.cells #[a, b, c] 38)).cell? ((⟨w.heap.size, 0, none⟩ : Addr).add j) = some u := by
  match j, hj with
  | 0, hj => simp at hj; subst hj; simp [Addr.add]
  | 1, hj => simp at hj; subst hj; simp [Addr.add]
  | 2, hj => simp at hj; subst hj; simp [Addr.add]
  | n + 3, hj => simp at hj
theorem one_ed (a b : Int) (c : ByteArray) : ∀ u ∈ [Value.int .i64 a, .int .i64 b, .string c], u.oneCell' = true := by
  simp [Value.oneCell']
theorem wants_snoc (wd nm : ByteArray) {l : List Tok} {k : Nat} (h : k < l.length) : wants wd nm (l.take (k + 1)) = wants wd nm (l.take k) ++ want1 wd nm l[k] := by
  unfold wants
  rw [List.take_succ_eq_append_getElem h, List.flatMap_append, List.flatMap_cons, List.flatMap_nil, List.append_nil]
theorem rens_snoc (wd nm : ByteArray) {l : List Tok} {k : Nat} (h : k < l.length) : (l.take (k + 1)).map (ren wd nm) = (l.take k).map (ren wd nm) ++ [ren wd nm l[k]] := by
  rw [List.take_succ_eq_append_getElem h, List.map_append]
  rfl
end Go.Proofs.YthbmnnnlkgbieaaGreatDoor
