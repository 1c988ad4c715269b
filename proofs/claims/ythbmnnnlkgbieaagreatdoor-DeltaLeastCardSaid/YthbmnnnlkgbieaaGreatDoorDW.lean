/- Mathematics: what the law DeltaLeast asks of each gap of a way. -/
import Derived.Test.YthbmnnnlkgbieaaGreatDoorMC1
import Derived.Test.YthbmnnnlkgbieaaGreatDoorMA1
namespace Go.Proofs.YthbmnnnlkgbieaaGreatDoor

theorem Dl.Way.len {α : Type} [DecidableEq α] {a b : List α} {i j : Nat} {G : List Dl.Gap} (h : Dl.Way a b i j G) : G.length + i + j ≤ a.length + b.length := by
  induction h with
  | done => simp
  | keep i j G _ _ ih => omega
  | gap i j i' j' G h1 h2 h3 h4 h5 _ _ ih => simp only [List.length_cons]; omega

/-- The first gap of a way. -/
structure First (u v : List ByteArray) (i j : Nat) (g : Dl.Gap) (G : List Dl.Gap) : Prop where
  shift : szs (u.take g.fo) + szs (v.take j) = szs (v.take g.fn) + szs (u.take i)
  o1 : g.fo ≤ g.eo
  n1 : g.fn ≤ g.en
  o2 : g.eo ≤ u.length
  n2 : g.en ≤ v.length
  L : Dl.L (bs u) (bs v) g.fo g.fn = Dl.L (bs u) (bs v) g.eo g.en
  good : Dl.Good (bs u) (bs v) g.eo g.en G
theorem First.of {u v : List ByteArray} {i j : Nat} {K : List Dl.Gap} (h : Dl.Good (bs u) (bs v) i j K) : ∀ g G, K = g :: G → First u v i j g G := by
  induction h with
  | done => intro g G e; cases e
  | keep i j K h1 hg ih =>
    intro g G e
    obtain ⟨hi, hj, hij⟩ := at_get h1
    have f := ih g G e
    have e1 := szs_take u i hi
    have e2 := szs_take v j hj
    have := f.shift
    rw [hij] at e1
    exact ⟨by omega, f.o1, f.n1, f.o2, f.n2, f.L, f.good⟩
  | gap i j i' j' K h1 h2 h3 h4 h5 h6 h7 hg ih =>
    intro g G e
    injection e with e1 e2
    subst e1 e2
    rw [bs_len] at h3 h4
    exact ⟨by show szs (u.take i) + szs (v.take j) = szs (v.take j) + szs (u.take i); omega, h1, h2, h3, h4, h6, hg⟩
/-- No unit that is the same stands at its beginning, or its end. -/
theorem First.begin {u v : List ByteArray} {i j : Nat} {g : Dl.Gap} {G : List Dl.Gap} (h : First u v i j g G) (h1 : g.fo < g.eo) (h2 : g.fn < g.en) : u[g.fo]'(by have := h.o2; omega) ≠ v[g.fn]'(by have := h.n2; omega) := by
  intro e
  have ho := h.o2
  have hn := h.n2
  have hat : Dl.At u v g.fo g.fn := ⟨u[g.fo]'(by omega), List.getElem?_eq_getElem (by omega), by rw [e]; exact List.getElem?_eq_getElem (by omega)⟩
  have := Dl.L_at (at_bs hat)
  have m := Dl.L_mono (a := bs u) (b := bs v) (show g.fo + 1 ≤ g.eo by omega) (show g.fn + 1 ≤ g.en by omega)
  have := h.L
  omega
theorem First.end_ {u v : List ByteArray} {i j : Nat} {g : Dl.Gap} {G : List Dl.Gap} (h : First u v i j g G) (h1 : g.fo < g.eo) (h2 : g.fn < g.en) : u[g.eo - 1]'(by have := h.o2; omega) ≠ v[g.en - 1]'(by have := h.n2; omega) := by
  intro e
  have ho := h.o2
  have hn := h.n2
  have hat : Dl.At u v (g.eo - 1) (g.en - 1) := ⟨u[g.eo - 1]'(by omega), List.getElem?_eq_getElem (by omega), by rw [e]; exact List.getElem?_eq_getElem (by omega)⟩
  have := Dl.L_at (at_bs hat)
  rw [show g.eo - 1 + 1 = g.eo by omega, show g.en - 1 + 1 = g.en by omega] at this
  have m := Dl.L_mono (a := bs u) (b := bs v) (show g.fo ≤ g.eo - 1 by omega) (show g.fn ≤ g.en - 1 by omega)
  have := h.L
  omega
/-- How long a gap's text is. -/
theorem First.text {u v : List ByteArray} {i j : Nat} {g : Dl.Gap} {G : List Dl.Gap} (h : First u v i j g G) : szs (v.take g.fn) + (edOf u v g).x.size = szs (v.take g.en) := by
  have e : (edOf u v g).x.size = szs ((v.drop g.fn).take (g.en - g.fn)) := cat_size_ _
  rw [e, ← szs_append, ← take_up v h.n1]
/-- What a gap takes out, and puts in. -/
def outs (u : List ByteArray) (i j : Nat) : List ByteArray := (u.take j).drop i
theorem outs_len {u : List ByteArray} {i j : Nat} (h : j ≤ u.length) : (outs u i j).length = j - i := by unfold outs; rw [List.length_drop, List.length_take]; omega
theorem outs_get {u : List ByteArray} {i j k : Nat} (h : k < (outs u i j).length) (h2 : i + k < u.length) : (outs u i j)[k] = u[i + k] := by
  simp [outs]
theorem First.apart {u v : List ByteArray} {i j : Nat} {g : Dl.Gap} {G : List Dl.Gap} (h : First u v i j g G) (h1 : 0 < (outs u g.fo g.eo).length) (h2 : 0 < (outs v g.fn g.en).length) :
    (outs u g.fo g.eo)[0] ≠ (outs v g.fn g.en)[0] ∧ (outs u g.fo g.eo)[(outs u g.fo g.eo).length - 1] ≠ (outs v g.fn g.en)[(outs v g.fn g.en).length - 1] := by
  have ho := h.o2
  have hn := h.n2
  have e1 := outs_len (i := g.fo) ho
  have e2 := outs_len (i := g.fn) hn
  have b := h.begin (by omega) (by omega)
  have c := h.end_ (by omega) (by omega)
  rw [outs_get h1 (by omega), outs_get h2 (by omega), outs_get _ (by omega), outs_get _ (by omega)]
  refine ⟨b, fun x => c ?_⟩
  have i1 : g.fo + ((outs u g.fo g.eo).length - 1) = g.eo - 1 := by omega
  have i2 : g.fn + ((outs v g.fn g.en).length - 1) = g.en - 1 := by omega
  simpa only [i1, i2] using x
/-- The state of the law's loop: what is left of a way. -/
structure LeftW (u v : List ByteArray) (G : List Dl.Gap) (k kept : Nat) (more : Int) : Prop where
  way : ∃ i j, Dl.Good (bs u) (bs v) i j (G.drop k) ∧ more = (szs (v.take j) : Int) - szs (u.take i)
  kept : kept = Dl.lcs (bs u) (bs v) + Dl.gone (G.drop k)
theorem LeftW.start {u v : List ByteArray} {G : List Dl.Gap} (h : Dl.Good (bs u) (bs v) 0 0 G) : LeftW u v G 0 u.length 0 := by
  refine ⟨⟨0, 0, h, by simp⟩, ?_⟩
  have := h.kept
  unfold Dl.L at this
  rw [List.drop_zero, List.drop_zero, bs_len] at this
  rw [List.drop_zero]
  omega
theorem LeftW.next {u v : List ByteArray} {G : List Dl.Gap} {k kept : Nat} {more : Int} (h : LeftW u v G k kept more) (hk : k < G.length) :
    (∃ i j, First u v i j G[k] (G.drop (k + 1))) ∧ more = (szs (v.take G[k].fn) : Int) - szs (u.take G[k].fo) ∧ G[k].eo - G[k].fo ≤ kept ∧
      LeftW u v G (k + 1) (kept - (G[k].eo - G[k].fo)) ((szs (v.take G[k].en) : Int) - szs (u.take G[k].eo)) := by
  obtain ⟨⟨i, j, hg, hm⟩, hkp⟩ := h
  rw [List.drop_eq_getElem_cons hk] at hg hkp
  have f := First.of hg _ _ rfl
  simp only [Dl.gone] at hkp
  refine ⟨⟨i, j, f⟩, by have := f.shift; omega, by omega, ⟨_, _, f.good, rfl⟩, ?_⟩
  omega
theorem LeftW.stop {u v : List ByteArray} {G : List Dl.Gap} {kept : Nat} {more : Int} (h : LeftW u v G G.length kept more) : kept = Dl.lcs (bs u) (bs v) := by
  rw [h.kept, List.drop_length]
  rfl
end Go.Proofs.YthbmnnnlkgbieaaGreatDoor
