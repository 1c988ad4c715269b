/- An argument that is a slice of edits, opened. -/
import Derived.Test.YtendbkbjmibchaaX
import Derived.ProofKit
import Derived.OpenShut
import Derived.Deep.Slices
import Derived.SizedLaws
namespace Go.Proofs.Ytendbkbjmibchaa
open Go.ChangeShapes Go.WideShapes Go.ChangeAt Go.RowKit Go.Deep

theorem spot_of {w : World} {a : Addr} {v : Value} (h : w.cell? a = some v) : a = ⟨a.block, a.off, none⟩ := by
  unfold World.cell? at h
  split at h
  · split at h
    · cases h
    · rename_i hs
      obtain ⟨b, o, s⟩ := a
      cases s with
      | none => rfl
      | some _ => simp at hs
  · cases h

theorem add_flat (b o n : Nat) : (⟨b, o, none⟩ : Addr).add n = ⟨b, o + n, none⟩ := by
  unfold Addr.add
  split
  · rename_i h; rw [h]; rfl
  · rfl
section
variable {H : Type} {enc : TypeId × Value → H} {P : Program} {W : World}
/-- One edit, as it is read. -/
def edD (H : Type) (e : Ed) : DataW H := .agg [.lit (.int .i64 e.f), .lit (.int .i64 e.t), .lit (.string e.x.data.toList)]

theorem open_edit {t : TypeId} {f0 f1 f2 : Field} (he : P.underlying t = some (.struct #[f0, f1, f2])) (h0 : P.underlying f0.type = some (.int .i64)) (h1 : P.underlying f1.type = some (.int .i64)) (h2 : P.underlying f2.type = some .string)
    (k0 : P.cellsOf f0.type = 1) (k1 : P.cellsOf f1.type = 1) (k2 : P.cellsOf f2.type = 1) (o0 : f0.offset = 0) (o1 : f1.offset = 1) (o2 : f2.offset = 2) (kt : P.cellsOf t = 3)
    {n : Nat} {cs : List Value} {d : DataW H} {p : List MemPlace} (h : DataW.trod enc P W 0 (fun _ => true) true n t cs = some (d, p)) :
    ∃ e : Ed, cs = [.int .i64 e.f, .int .i64 e.t, .string e.x] ∧ d = edD H e := by
  obtain ⟨xs, m, _, hx, hlen, hxl, hf⟩ := DataW.trod_struct he h
  rw [kt] at hlen
  match cs, hlen with
  | [c0, c1, c2], _ =>
    match xs, hxl with
    | [x0, x1, x2], _ =>
      have g0 := hf 0 f0 rfl
      have g1 := hf 1 f1 rfl
      have g2 := hf 2 f2 rfl
      rw [o0, k0] at g0
      rw [o1, k1] at g1
      rw [o2, k2] at g2
      obtain ⟨a, ha, hxa, _⟩ := DataW.trod_int h0 g0
      obtain ⟨b, hb, hxb, _⟩ := DataW.trod_int h1 g1
      obtain ⟨c, hc, hxc, _⟩ := DataW.trod_string h2 g2
      simp at ha hb hc
      subst ha hb hc
      refine ⟨⟨a, b, c⟩, rfl, ?_⟩
      simp only [Prod.mk.injEq] at hx
      rw [hx.1, hxa, hxb, hxc]
      rfl

theorem open_edits_any {t te : TypeId} {f0 f1 f2 : Field} (ht : P.underlying t = some (.slice te)) (he : P.underlying te = some (.struct #[f0, f1, f2])) (h0 : P.underlying f0.type = some (.int .i64)) (h1 : P.underlying f1.type = some (.int .i64)) (h2 : P.underlying f2.type = some .string)
    (k0 : P.cellsOf f0.type = 1) (k1 : P.cellsOf f1.type = 1) (k2 : P.cellsOf f2.type = 1) (o0 : f0.offset = 0) (o1 : f1.offset = 1) (o2 : f2.offset = 2) (kt : P.cellsOf te = 3)
    {n : Nat} {cs : List Value} {d : DataW H} {p : List MemPlace} (h : DataW.trod enc P W 0 (fun _ => true) true n t cs = some (d, p)) :
    ∃ (A : Option Addr) (cap : Nat) (es : List Ed), cs = [.slice A es.length cap] ∧ Eds W W.heap.size A es ∧ es.length ≤ maxLen ∧ ((d = .nil ∧ es = []) ∨ ∃ spare, d = .slice (es.map (edD H)) spare) := by
  rcases open_slice ht h with ⟨rfl, hx⟩ | ⟨a, len, cap, m, q, D, Pl, rfl, hb, hl, hm, hmm, hx, hi⟩
  · simp only [Prod.mk.injEq] at hx
    exact ⟨none, 0, [], rfl, fun h => by simp at h, by simp, .inl ⟨hx.1, rfl⟩⟩
  · rw [if_pos rfl] at hmm
    subst hmm
    rw [kt] at hx hi
    have key : ∀ i, i < len → ∃ e : Ed, (W.cell? (a.add (i * 3)) = some (.int .i64 e.f) ∧ W.cell? ((a.add (i * 3)).add 1) = some (.int .i64 e.t) ∧ W.cell? ((a.add (i * 3)).add 2) = some (.string e.x)) ∧ D i = edD H e := fun i hil => by
      obtain ⟨cs', hc, ht'⟩ := hi i (by omega)
      obtain ⟨e, rfl, hd⟩ := open_edit he h0 h1 h2 k0 k1 k2 o0 o1 o2 kt ht'
      obtain ⟨_, _, hat⟩ := World.cells?_some hc
      exact ⟨e, ⟨by simpa [Addr.add] using hat 0 (by omega), by simpa using hat 1 (by omega), by simpa using hat 2 (by omega)⟩, hd⟩
    let F : Nat → Ed := fun i => if h : i < len then Classical.choose (key i h) else ⟨0, 0, ⟨#[]⟩⟩
    have hF : ∀ i, i < len → (W.cell? (a.add (i * 3)) = some (.int .i64 (F i).f) ∧ W.cell? ((a.add (i * 3)).add 1) = some (.int .i64 (F i).t) ∧ W.cell? ((a.add (i * 3)).add 2) = some (.string (F i).x)) ∧ D i = edD H (F i) := fun i h => by
      have := Classical.choose_spec (key i h)
      simp only [F, dif_pos h]
      exact this
    have hlen : ((List.range len).map F).length = len := by simp
    simp only [Prod.mk.injEq] at hx
    refine ⟨some a, m, (List.range len).map F, by rw [hlen], fun hn => ?_, by rw [hlen]; omega, .inr ⟨(List.range (m - len)).map fun j => D (len + j), ?_⟩⟩
    · rw [hlen] at hn
      have hs := spot_of ((hF 0 hn).1.1)
      have hsp : a = ⟨a.block, a.off, none⟩ := by simpa [Addr.add] using hs
      have hlt := World.block_lt_of_cell? W _ ((hF 0 hn).1.1)
      refine ⟨a.block, a.off, congrArg some hsp, by simpa [Addr.add] using hlt, fun i hil => ?_⟩
      rw [hlen] at hil
      have hg : ((List.range len).map F)[i]'(by rw [hlen]; exact hil) = F i := by simp
      rw [hg]
      obtain ⟨⟨e0, e1, e2⟩, _⟩ := hF i hil
      rw [hsp] at e0 e1 e2
      rw [add_flat] at e0 e1 e2
      rw [add_flat] at e1 e2
      exact ⟨e0, e1, e2⟩
    · rw [hx.1]
      congr 1
      rw [List.map_map]
      exact List.map_congr_left fun i hi' => (hF i (List.mem_range.1 hi')).2

theorem weightsAll_mem' {e : TypeId} {d : DataW H} : ∀ {ds : List (DataW H)}, d ∈ ds → ∀ n, n ∈ DataW.weights P e d → n ∈ DataW.weightsAll P e ds
  | x :: r, hd, n, hn => by
    rw [DataW.weightsAll, List.mem_append]
    rcases List.mem_cons.1 hd with rfl | h
    · exact .inl hn
    · exact .inr (weightsAll_mem' h n hn)
/-- Each text of edits that came in is short enough. -/
theorem edits_sized {t te : TypeId} {f0 f1 f2 : Field} (ht : P.underlying t = some (.slice te)) (he : P.underlying te = some (.struct #[f0, f1, f2])) {ts : List TypeId} {ds : List (DataW H)} {j : Nat} {es : List Ed} {spare : List (DataW H)}
    (h : (DataW.weightsEach P ts ds).all (· ≤ reachBytes) = true) (hj : ts[j]? = some t) (hd : ds[j]? = some (.slice (es.map (edD H)) spare)) : ∀ e ∈ es, e.x.size ≤ reachBytes := fun e hem => by
  refine of_decide_eq_true (List.all_eq_true.1 h _ (DataW.weights_mem_each hj hd _ ?_))
  rw [DataW.weights, ht]
  refine List.mem_cons_of_mem _ (List.mem_append_left _ (weightsAll_mem' (d := edD H e) (List.mem_map.2 ⟨e, hem, rfl⟩) _ ?_))
  unfold edD
  rw [DataW.weights, he]
  have : e.x.data.toList.length = e.x.size := Array.length_toList
  simp [DataW.weightsEach, DataW.weights, this]
end

/-- A slice of edits at this program, opened. -/
theorem open_edits {H : Type} {enc : TypeId × Value → H} {W : World} {base : Nat} {v : Value} {d : DataW H} {p : List MemPlace} (hv : Value.okWide Try.prog W .any base 53 v)
    (h : DataW.Trod enc Try.prog W 0 (fun _ => true) true 53 v d p) :
    ∃ (A : Option Addr) (cap : Nat) (es : List Ed), v = .slice A es.length cap ∧ Eds W W.heap.size A es ∧ es.length ≤ maxLen ∧ ((d = .nil ∧ es = []) ∨ ∃ spare, d = .slice (es.map (edD H)) spare) := by
  obtain ⟨a0, len, cap, rfl⟩ := okWide_slice Try.underlying53 hv
  obtain ⟨fuel, hf⟩ := h
  obtain ⟨A, cap', es, hcs, h1, h2, h3⟩ := open_edits_any Try.underlying53 Try.underlying68 Try.underlying3 Try.underlying3 Try.underlying9 (by kernel_rfl) (by kernel_rfl) (by kernel_rfl) rfl rfl rfl (by kernel_rfl) hf
  have : Value.slice a0 len cap = .slice A es.length cap' := by simpa [Value.cells] using hcs
  exact ⟨A, cap', es, this, h1, h2, h3⟩
end Go.Proofs.Ytendbkbjmibchaa
