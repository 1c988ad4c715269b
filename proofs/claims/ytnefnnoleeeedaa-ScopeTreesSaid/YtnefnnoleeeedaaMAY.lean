/- A node that is an argument, opened. -/
import Derived.ProofKit
import Derived.OpenShut
import Derived.Deep.Slices
import Derived.Deep.Strs
import Derived.SizedLaws
import Derived.Test.YtnefnnoleeeedaaSV
namespace Go.Proofs.Ytnefnnoleeeedaa
open Go.RowKit Go.Op
namespace Sc
open Vm

open Go.ChangeShapes Go.WideShapes Go.ChangeAt Go.Deep
theorem spot_of {w : World} {a : Addr} {v : Value} (h : w.cell? a = some v) : a = ⟨a.block, a.off, none⟩ := by
  unfold World.cell? at h
  split at h
  · split at h
    · cases h
    · rename_i hs
      obtain ⟨b, o, s⟩ := a
      cases s with
      | none => rfl
      | some _ => simp at hs
  · cases h
theorem add_flat (b o n : Nat) : (⟨b, o, none⟩ : Addr).add n = ⟨b, o + n, none⟩ := by
  unfold Addr.add
  split
  · rename_i h; rw [h]; rfl
  · rfl
section
variable {H : Type} {enc : TypeId × Value → H} {P : Program} {W : World}
abbrev hl (h : Hi) (k : Tr) (A : Option Addr) (cap : Nat) : List Value := [.int .i64 h.kind, .int .i64 h.fro, .int .i64 h.til, .string h.word, .int .i64 h.at_, .slice A k.len cap]
theorem build_tr {B g : Nat} : ∀ len o : Nat, (∀ i, i < len → ∃ h k A c, (∀ j u, (hl h k A c)[j]? = some u → W.cell? ⟨g, o + (i * 6 + j), none⟩ = some u) ∧ h.word.size ≤ maxLen ∧ TV W B k A c) →
    ∃ (t : Tr) (ck : List Value), t.len = len ∧ (∀ j u, ck[j]? = some u → W.cell? ⟨g, o + j, none⟩ = some u) ∧ TC W B t ck
  | 0, o, _ => ⟨.nil, [], rfl, fun j u h => by simp at h, by rw [TC]⟩
  | len + 1, o, h => by
    obtain ⟨t, ck, h1, h2, h3⟩ := build_tr len (o + 6) fun i hi => by
      obtain ⟨hd, k, A, c, k1, k2⟩ := h (i + 1) (by omega)
      exact ⟨hd, k, A, c, fun j u hu => by have := k1 j u hu; rw [show o + ((i + 1) * 6 + j) = o + 6 + (i * 6 + j) by omega] at this; exact this, k2⟩
    obtain ⟨hd, k, A, c, k1, k2, k3⟩ := h 0 (by omega)
    refine ⟨.cons hd k t, hl hd k A c ++ ck, by rw [Tr.len, h1], fun j u hu => ?_, ?_⟩
    · by_cases hj : j < 6
      · rw [List.getElem?_append_left (by simpa using hj)] at hu
        have := k1 j u hu
        rw [show o + (0 * 6 + j) = o + j by omega] at this
        exact this
      · rw [List.getElem?_append_right (by simpa using hj)] at hu
        have := h2 _ u hu
        rw [show o + 6 + (j - (hl hd k A c).length) = o + j by simp; omega] at this
        exact this
    · rw [TC]
      exact ⟨A, c, ck, rfl, k2, k3.1, k3.2, h3⟩
set_option maxHeartbeats 1000000 in
theorem open_node {t : TypeId} {f0 f1 f2 f3 f4 f5 : Field} (ht : P.underlying t = some (.struct #[f0, f1, f2, f3, f4, f5])) (h0 : P.underlying f0.type = some (.int .i64)) (h1 : P.underlying f1.type = some (.int .i64)) (h2 : P.underlying f2.type = some (.int .i64)) (h3 : P.underlying f3.type = some .string) (h4 : P.underlying f4.type = some (.int .i64)) (h5 : P.underlying f5.type = some (.slice t))
    (k0 : P.cellsOf f0.type = 1) (k1 : P.cellsOf f1.type = 1) (k2 : P.cellsOf f2.type = 1) (k3 : P.cellsOf f3.type = 1) (k4 : P.cellsOf f4.type = 1) (k5 : P.cellsOf f5.type = 1) (o0 : f0.offset = 0) (o1 : f1.offset = 1) (o2 : f2.offset = 2) (o3 : f3.offset = 3) (o4 : f4.offset = 4) (o5 : f5.offset = 5) (kt : P.cellsOf t = 6) :
    ∀ (N fuel : Nat) (cs : List Value) (d : DataW H) (p : List MemPlace), SizeOf.sizeOf d ≤ N → DataW.trod enc P W 0 (fun _ => true) true fuel t cs = some (d, p) →
      ∃ h k A c, cs = hl h k A c ∧ h.word.size ≤ maxLen ∧ TV W W.heap.size k A c := by
  intro N
  induction N with
  | zero =>
    intro fuel cs d p hs h
    obtain ⟨xs, m, _, hx, _⟩ := DataW.trod_struct ht h
    simp only [Prod.mk.injEq] at hx
    rw [hx.1] at hs
    simp at hs
  | succ N ih =>
    intro fuel cs d p hs h
    obtain ⟨xs, m, _, hx, hlen, hxl, hf⟩ := DataW.trod_struct ht h
    rw [kt] at hlen
    match cs, hlen with
    | [c0, c1, c2, c3, c4, c5], _ =>
      match xs, hxl with
      | [x0, x1, x2, x3, x4, x5], _ =>
        have g0 := hf 0 f0 rfl
        have g1 := hf 1 f1 rfl
        have g2 := hf 2 f2 rfl
        have g3 := hf 3 f3 rfl
        have g4 := hf 4 f4 rfl
        have g5 := hf 5 f5 rfl
        rw [o0, k0] at g0
        rw [o1, k1] at g1
        rw [o2, k2] at g2
        rw [o3, k3] at g3
        rw [o4, k4] at g4
        rw [o5, k5] at g5
        simp only [List.drop_zero, List.take_succ_cons, List.take_zero, List.drop_succ_cons, List.getElem?_cons_zero, List.getElem?_cons_succ] at g0 g1 g2 g3 g4 g5
        simp only [Prod.mk.injEq] at hx
        have hd := hx.1
        obtain ⟨z0, e0, _⟩ := DataW.trod_int h0 g0
        obtain ⟨z1, e1, _⟩ := DataW.trod_int h1 g1
        obtain ⟨z2, e2, _⟩ := DataW.trod_int h2 g2
        obtain ⟨s3, e3, _, hs3⟩ := DataW.trod_string h3 g3
        obtain ⟨z4, e4, _⟩ := DataW.trod_int h4 g4
        simp at e0 e1 e2 e3 e4
        subst e0 e1 e2 e3 e4
        rcases open_slice h5 g5 with ⟨hc2, _⟩ | ⟨a, len, cap, m2, q, D, Pl, hc2, _, hl_, _, hmm, hx2, hi⟩
        · simp at hc2
          subst hc2
          exact ⟨⟨z0, z1, z2, s3, z4⟩, .nil, none, 0, rfl, hs3, Nat.le_refl _, fun h => absurd h (Nat.lt_irrefl 0)⟩
        · rw [if_pos rfl] at hmm
          subst hmm
          rw [kt] at hi
          simp at hc2
          subst hc2
          have hsz : ∀ i, i < len → SizeOf.sizeOf (D i) ≤ N := fun i hi' => by
            have e1 : D i ∈ (List.range len).map D := List.mem_map.2 ⟨i, List.mem_range.2 hi', rfl⟩
            have e2 := List.sizeOf_lt_of_mem e1
            have e3 : x5.1 = .slice ((List.range len).map D) ((List.range (m2 - len)).map fun j => D (len + j)) := by rw [hx2]
            rw [hd] at hs
            simp only [List.map_cons, List.map_nil] at hs
            rw [e3] at hs
            simp at hs
            omega
          by_cases hl0 : len = 0
          · subst hl0
            exact ⟨⟨z0, z1, z2, s3, z4⟩, .nil, some a, m2, rfl, hs3, hl_, fun h => absurd h (Nat.lt_irrefl 0)⟩
          · have key : ∀ i, i < len → ∃ h k A c, (∀ j u, (hl h k A c)[j]? = some u → W.cell? ((a.add (i * 6)).add j) = some u) ∧ h.word.size ≤ maxLen ∧ TV W W.heap.size k A c := fun i hi' => by
              obtain ⟨cs', hc', ht'⟩ := hi i (by omega)
              obtain ⟨h, k, A, c, rfl, hw, hti⟩ := ih q cs' (D i) (Pl i) (hsz i hi') ht'
              obtain ⟨_, _, hat⟩ := World.cells?_some hc'
              refine ⟨h, k, A, c, fun j u hu => ?_, hw, hti⟩
              have hj := (List.getElem?_eq_some_iff.1 hu).1
              have := hat j (by simpa using hj)
              rw [this]
              exact hu
            have ha : a = ⟨a.block, a.off, none⟩ := by
              obtain ⟨h, _, _, _, hk, _⟩ := key 0 (by omega)
              have := spot_of (hk 0 _ rfl)
              simpa [Addr.add] using this
            have hlt : a.block < W.heap.size := by
              obtain ⟨h, _, _, _, hk, _⟩ := key 0 (by omega)
              have := World.block_lt_of_cell? W _ (hk 0 _ rfl)
              simpa [Addr.add] using this
            obtain ⟨t, ck, q1, q2, q3⟩ := build_tr (W := W) (B := W.heap.size) (g := a.block) len a.off (fun i hi' => by
              obtain ⟨h, k, A, c, hk, hti⟩ := key i hi'
              refine ⟨h, k, A, c, fun j u hu => ?_, hti⟩
              have := hk j u hu
              rw [ha, add_flat, add_flat, Nat.add_assoc] at this
              exact this)
            exact ⟨⟨z0, z1, z2, s3, z4⟩, t, some a, m2, by rw [← q1], hs3, by rw [q1]; exact hl_, fun _ => ⟨a.block, a.off, ck, congrArg some ha, hlt, q2, q3⟩⟩
end
set_option maxRecDepth 100000 in
theorem open_nodearg {H : Type} {enc : TypeId × Value → H} {W : World} {base : Nat} {v : Value} {d : DataW H} {p : List MemPlace} (hv : Value.okWide Try.prog W .any base 25 v)
    (h : DataW.Trod enc Try.prog W 0 (fun _ => true) true 25 v d p) : ∃ h k A c, v = hvv h A k.len c ∧ TV W W.heap.size k A c := by
  obtain ⟨cs, rfl, hsz⟩ := okWide_struct Try.underlying25 hv
  obtain ⟨fuel, hf⟩ := h
  obtain ⟨h, k, A, c, hcs, _, ht⟩ := open_node Try.underlying25 Try.underlying3 Try.underlying3 Try.underlying3 Try.underlying9 Try.underlying3 (by first | exact Try.underlying26 | kernel_rfl) (by kernel_rfl) (by kernel_rfl) (by kernel_rfl) (by kernel_rfl) (by kernel_rfl) (by kernel_rfl) rfl rfl rfl rfl rfl rfl (by kernel_rfl) _ fuel _ d p (Nat.le_refl _) hf
  refine ⟨h, k, A, c, ?_, ht⟩
  have h2 : cs.toList = hl h k A c := by simpa [Value.cells] using hcs
  have h3 : cs = (hl h k A c).toArray := by rw [← h2]
  rw [h3]
end Sc
end Go.Proofs.Ytnefnnoleeeedaa
/- What every law's row asks behind its walk: it returned true, and old memory stays as it was: so each argument reads as it did. -/
namespace Go.Proofs.Ytnefnnoleeeedaa
namespace Sc
open Go.ChangeShapes Go.WideShapes Go.ChangeAt Go.RowKit

section
variable {H : Type} {enc : TypeId × Value → H} {P : Program}
/-- Arguments of types that can be read stay as they read, where no old block has turned. -/
theorem args_stay (hl : laidOutB P = true) {W W' : World} (hb : Below W.heap.size W W') : ∀ (ts : List TypeId) (vs : List Value) (ds : List (DataW H)) (ps : List MemPlace),
    (∀ t, t ∈ ts → P.readableRec t = true ∧ t < P.types.size) → (∀ x ∈ ps, x.block < W.heap.size) →
    DataW.TrodAll enc P W 0 (fun _ => true) true ts vs ds ps → DataW.TrodAll enc P W' 0 (fun b => decide (b < W.heap.size)) true ts vs ds ps
  | [], vs, ds, ps, _, _, h => by
    obtain ⟨rfl, rfl, rfl⟩ := trodAll_nil h
    exact trodAll_mk0
  | t :: ts, vs, ds, ps, hts, hlt, h => by
    obtain ⟨v, vs', d, ds', p, q, rfl, rfl, rfl, h1, h2⟩ := trodAll_cons h
    have hr := hts t (List.mem_cons_self)
    exact trodAll_cons_mk (Below.trod hl hr.1 hr.2 h1 hb fun x hx => hlt x (List.mem_append_left _ hx))
      (args_stay hl hb ts vs' ds' q (fun u hu => hts u (List.mem_cons_of_mem _ hu)) (fun x hx => hlt x (List.mem_append_right _ hx)) h2)
/-- The row's word on a law that returned true. -/
theorem law_post (hl : laidOutB P = true) {f : Func} {s : ChangeSpec} {tb : TypeId} {W W' : World} {args : Array Value} {ds gs : List (DataW H)} {before : List MemPlace} (hv : s.vars = []) (hf : f.resultTypes = #[tb])
    (htb : P.underlying tb = some .bool) (hts : ∀ t, t ∈ f.params.toList → P.readableRec t = true ∧ t < P.types.size)
    (hW : DataW.Whole enc P f.params.toList s.vars false W args.toList ds gs before)
    (hfn : (s.fn H (ds ++ gs)).results = [.lit (.bool true)] ∧ (s.fn H (ds ++ gs)).args = ds ∧ (s.fn H (ds ++ gs)).vars = []) (hb : Below W.heap.size W W') :
    s.post enc P f false true false false W args (.bool true) W' := by
  have hlt : ∀ p ∈ before, p.block < W.heap.size := fun p hp => hW.lt p hp
  have hW0 := hW
  obtain ⟨p, q, hA, hV, rfl, hz, hn⟩ := hW
  refine ⟨ds, gs, p ++ q, [], p, [], hW0, ?_, ?_, ?_, hb.frame _, fun h => by cases h⟩
  · rw [hfn.1, hf]
    exact trodAll_cons_mk (shut_bool htb _) trodAll_mk0
  · rw [hfn.2.1]
    exact args_stay hl hb _ _ _ _ hts (fun x hx => hlt x (List.mem_append_left _ hx)) hA
  · rw [hfn.2.2, hv]
    exact rfl
end
open Vm
theorem own : ownKnob Try.prog.godebug = none := by kernel_rfl
theorem laid : laidOutB Try.prog = true := by kernel_rfl
theorem rd25 : Try.prog.readableRec 25 = true ∧ 25 < Try.prog.types.size := ⟨by kernel_rfl, of_decide_eq_true (by kernel_rfl)⟩
end Sc
end Go.Proofs.Ytnefnnoleeeedaa
