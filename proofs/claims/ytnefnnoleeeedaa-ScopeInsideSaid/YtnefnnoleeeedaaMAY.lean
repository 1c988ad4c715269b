/- A node that is an argument, opened. -/
import Derived.ProofKit
import Derived.OpenShut
import Derived.Deep.Slices
import Derived.Deep.Strs
import Derived.SizedLaws
import Derived.Test.YtnefnnoleeeedaaSV
import Derived.Test.YtnefnnoleeeedaaMAJ
import Derived.Test.YtnefnnoleeeedaaMAI
namespace Go.Proofs.Ytnefnnoleeeedaa
open Go.RowKit Go.Op
namespace Sc
open Vm

open Go.ChangeShapes Go.WideShapes Go.ChangeAt Go.Deep
theorem spot_of {w : World} {a : Addr} {v : Value} (h : w.cell? a = some v) : a = ⟨a.block, a.off, none⟩ := by
  unfold World.cell? at h
  split at h
  · split at h
    · cases h
    · rename_i hs
      obtain ⟨b, o, s⟩ := a
      cases s with
      | none => rfl
      | some _ => simp at hs
  · cases h
theorem add_flat (b o n : Nat) : (⟨b, o, none⟩ : Addr).add n = ⟨b, o + n, none⟩ := by
  unfold Addr.add
  split
  · rename_i h; rw [h]; rfl
  · rfl
section
variable {H : Type} {enc : TypeId × Value → H} {P : Program} {W : World}
abbrev hl (h : Hi) (k : Tr) (A : Option Addr) (cap : Nat) : List Value := [.int .i64 h.kind, .int .i64 h.fro, .int .i64 h.til, .string h.word, .int .i64 h.at_, .slice A k.len cap]
theorem build_tr {B g : Nat} : ∀ len o : Nat, (∀ i, i < len → ∃ h k A c, (∀ j u, (hl h k A c)[j]? = some u → W.cell? ⟨g, o + (i * 6 + j), none⟩ = some u) ∧ h.word.size ≤ maxLen ∧ TV W B k A c) →
    ∃ (t : Tr) (ck : List Value), t.len = len ∧ (∀ j u, ck[j]? = some u → W.cell? ⟨g, o + j, none⟩ = some u) ∧ TC W B t ck
  | 0, o, _ => ⟨.nil, [], rfl, fun j u h => by simp at h, by rw [TC]⟩
  | len + 1, o, h => by
    obtain ⟨t, ck, h1, h2, h3⟩ := build_tr len (o + 6) fun i hi => by
      obtain ⟨hd, k, A, c, k1, k2⟩ := h (i + 1) (by omega)
      exact ⟨hd, k, A, c, fun j u hu => by have := k1 j u hu; rw [show o + ((i + 1) * 6 + j) = o + 6 + (i * 6 + j) by omega] at this; exact this, k2⟩
    obtain ⟨hd, k, A, c, k1, k2, k3⟩ := h 0 (by omega)
    refine ⟨.cons hd k t, hl hd k A c ++ ck, by rw [Tr.len, h1], fun j u hu => ?_, ?_⟩
    · by_cases hj : j < 6
      · rw [List.getElem?_append_left (by simpa using hj)] at hu
        have := k1 j u hu
        rw [show o + (0 * 6 + j) = o + j by omega] at this
        exact this
      · rw [List.getElem?_append_right (by simpa using hj)] at hu
        have := h2 _ u hu
        rw [show o + 6 + (j - (hl hd k A c).length) = o + j by simp; omega] at this
        exact this
    · rw [TC]
      exact ⟨A, c, ck, rfl, k2, k3.1, k3.2, h3⟩
set_option maxHeartbeats 1000000 in
theorem open_node {t : TypeId} {f0 f1 f2 f3 f4 f5 : Field} (ht : P.underlying t = some (.struct #[f0, f1, f2, f3, f4, f5])) (h0 : P.underlying f0.type = some (.int .i64)) (h1 : P.underlying f1.type = some (.int .i64)) (h2 : P.underlying f2.type = some (.int .i64)) (h3 : P.underlying f3.type = some .string) (h4 : P.underlying f4.type = some (.int .i64)) (h5 : P.underlying f5.type = some (.slice t))
    (k0 : P.cellsOf f0.type = 1) (k1 : P.cellsOf f1.type = 1) (k2 : P.cellsOf f2.type = 1) (k3 : P.cellsOf f3.type = 1) (k4 : P.cellsOf f4.type = 1) (k5 : P.cellsOf f5.type = 1) (o0 : f0.offset = 0) (o1 : f1.offset = 1) (o2 : f2.offset = 2) (o3 : f3.offset = 3) (o4 : f4.offset = 4) (o5 : f5.offset = 5) (kt : P.cellsOf t = 6) :
    ∀ (N fuel : Nat) (cs : List Value) (d : DataW H) (p : List MemPlace), SizeOf.sizeOf d ≤ N → DataW.trod enc P W 0 (fun _ => true) true fuel t cs = some (d, p) →
      ∃ h k A c, cs = hl h k A c ∧ h.word.size ≤ maxLen ∧ TV W W.heap.size k A c := by
  intro N
  induction N with
  | zero =>
    intro fuel cs d p hs h
    obtain ⟨xs, m, _, hx, _⟩ := DataW.trod_struct ht h
    simp only [Prod.mk.injEq] at hx
    rw [hx.1] at hs
    simp at hs
  | succ N ih =>
    intro fuel cs d p hs h
    obtain ⟨xs, m, _, hx, hlen, hxl, hf⟩ := DataW.trod_struct ht h
    rw [kt] at hlen
    match cs, hlen with
    | [c0, c1, c2, c3, c4, c5], _ =>
      match xs, hxl with
      | [x0, x1, x2, x3, x4, x5], _ =>
        have g0 := hf 0 f0 rfl
        have g1 := hf 1 f1 rfl
        have g2 := hf 2 f2 rfl
        have g3 := hf 3 f3 rfl
        have g4 := hf 4 f4 rfl
        have g5 := hf 5 f5 rfl
        rw [o0, k0] at g0
        rw [o1, k1] at g1
        rw [o2, k2] at g2
        rw [o3, k3] at g3
        rw [o4, k4] at g4
        rw [o5, k5] at g5
        simp only [List.drop_zero, List.take_succ_cons, List.take_zero, List.drop_succ_cons, List.getElem?_cons_zero, List.getElem?_cons_succ] at g0 g1 g2 g3 g4 g5
        simp only [Prod.mk.injEq] at hx
        have hd := hx.1
        obtain ⟨z0, e0, _⟩ := DataW.trod_int h0 g0
        obtain ⟨z1, e1, _⟩ := DataW.trod_int h1 g1
        obtain ⟨z2, e2, _⟩ := DataW.trod_int h2 g2
        obtain ⟨s3, e3, _, hs3⟩ := DataW.trod_string h3 g3
        obtain ⟨z4, e4, _⟩ := DataW.trod_int h4 g4
        simp at e0 e1 e2 e3 e4
        subst e0 e1 e2 e3 e4
        rcases open_slice h5 g5 with ⟨hc2, _⟩ | ⟨a, len, cap, m2, q, D, Pl, hc2, _, hl_, _, hmm, hx2, hi⟩
        · simp at hc2
          subst hc2
          exact ⟨⟨z0, z1, z2, s3, z4⟩, .nil, none, 0, rfl, hs3, Nat.le_refl _, fun h => absurd h (Nat.lt_irrefl 0)⟩
        · rw [if_pos rfl] at hmm
          subst hmm
          rw [kt] at hi
          simp at hc2
          subst hc2
          have hsz : ∀ i, i < len → SizeOf.sizeOf (D i) ≤ N := fun i hi' => by
            have e1 : D i ∈ (List.range len).map D := List.mem_map.2 ⟨i, List.mem_range.2 hi', rfl⟩
            have e2 := List.sizeOf_lt_of_mem e1
            have e3 : x5.1 = .slice ((List.range len).map D) ((List.range (m2 - len)).map fun j => D (len + j)) := by rw [hx2]
            rw [hd] at hs
            simp only [List.map_cons, List.map_nil] at hs
            rw [e3] at hs
            simp at hs
            omega
          by_cases hl0 : len = 0
          · subst hl0
            exact ⟨⟨z0, z1, z2, s3, z4⟩, .nil, some a, m2, rfl, hs3, hl_, fun h => absurd h (Nat.lt_irrefl 0)⟩
          · have key : ∀ i, i < len → ∃ h k A c, (∀ j u, (hl h k A c)[j]? = some u → W.cell? ((a.add (i * 6)).add j) = some u) ∧ h.word.size ≤ maxLen ∧ TV W W.heap.size k A c := fun i hi' => by
              obtain ⟨cs', hc', ht'⟩ := hi i (by omega)
              obtain ⟨h, k, A, c, rfl, hw, hti⟩ := ih q cs' (D i) (Pl i) (hsz i hi') ht'
              obtain ⟨_, _, hat⟩ := World.cells?_some hc'
              refine ⟨h, k, A, c, fun j u hu => ?_, hw, hti⟩
              have hj := (List.getElem?_eq_some_iff.1 hu).1
              have := hat j (by simpa using hj)
              rw [this]
              exact hu
            have ha : a = ⟨a.block, a.off, none⟩ := by
              obtain ⟨h, _, _, _, hk, _⟩ := key 0 (by omega)
              have := spot_of (hk 0 _ rfl)
              simpa [Addr.add] using this
            have hlt : a.block < W.heap.size := by
              obtain ⟨h, _, _, _, hk, _⟩ := key 0 (by omega)
              have := World.block_lt_of_cell? W _ (hk 0 _ rfl)
              simpa [Addr.add] using this
            obtain ⟨t, ck, q1, q2, q3⟩ := build_tr (W := W) (B := W.heap.size) (g := a.block) len a.off (fun i hi' => by
              obtain ⟨h, k, A, c, hk, hti⟩ := key i hi'
              refine ⟨h, k, A, c, fun j u hu => ?_, hti⟩
              have := hk j u hu
              rw [ha, add_flat, add_flat, Nat.add_assoc] at this
              exact this)
            exact ⟨⟨z0, z1, z2, s3, z4⟩, t, some a, m2, by rw [← q1], hs3, by rw [q1]; exact hl_, fun _ => ⟨a.block, a.off, ck, congrArg some ha, hlt, q2, q3⟩⟩
end
set_option maxRecDepth 100000 in
theorem open_nodearg {H : Type} {enc : TypeId × Value → H} {W : World} {base : Nat} {v : Value} {d : DataW H} {p : List MemPlace} (hv : Value.okWide Try.prog W .any base 25 v)
    (h : DataW.Trod enc Try.prog W 0 (fun _ => true) true 25 v d p) : ∃ h k A c, v = hvv h A k.len c ∧ TV W W.heap.size k A c := by
  obtain ⟨cs, rfl, hsz⟩ := okWide_struct Try.underlying25 hv
  obtain ⟨fuel, hf⟩ := h
  obtain ⟨h, k, A, c, hcs, _, ht⟩ := open_node Try.underlying25 Try.underlying3 Try.underlying3 Try.underlying3 Try.underlying9 Try.underlying3 (by first | exact Try.underlying26 | kernel_rfl) (by kernel_rfl) (by kernel_rfl) (by kernel_rfl) (by kernel_rfl) (by kernel_rfl) (by kernel_rfl) rfl rfl rfl rfl rfl rfl (by kernel_rfl) _ fuel _ d p (Nat.le_refl _) hf
  refine ⟨h, k, A, c, ?_, ht⟩
  have h2 : cs.toList = hl h k A c := by simpa [Value.cells] using hcs
  have h3 : cs = (hl h k A c).toArray := by rw [← h2]
  rw [h3]
end Sc
end Go.Proofs.Ytnefnnoleeeedaa
/- What every law's row asks behind its walk: it returned true, and old memory stays as it was: so each argument reads as it did. -/
namespace Go.Proofs.Ytnefnnoleeeedaa
namespace Sc
open Go.ChangeShapes Go.WideShapes Go.ChangeAt Go.RowKit

section
variable {H : Type} {enc : TypeId × Value → H} {P : Program}
/-- Arguments of types that can be read stay as they read, where no old block has turned. -/
theorem args_stay (hl : laidOutB P = true) {W W' : World} (hb : Below W.heap.size W W') : ∀ (ts : List TypeId) (vs : List Value) (ds : List (DataW H)) (ps : List MemPlace),
    (∀ t, t ∈ ts → P.readableRec t = true ∧ t < P.types.size) → (∀ x ∈ ps, x.block < W.heap.size) →
    DataW.TrodAll enc P W 0 (fun _ => true) true ts vs ds ps → DataW.TrodAll enc P W' 0 (fun b => decide (b < W.heap.size)) true ts vs ds ps
  | [], vs, ds, ps, _, _, h => by
    obtain ⟨rfl, rfl, rfl⟩ := trodAll_nil h
    exact trodAll_mk0
  | t :: ts, vs, ds, ps, hts, hlt, h => by
    obtain ⟨v, vs', d, ds', p, q, rfl, rfl, rfl, h1, h2⟩ := trodAll_cons h
    have hr := hts t (List.mem_cons_self)
    exact trodAll_cons_mk (Below.trod hl hr.1 hr.2 h1 hb fun x hx => hlt x (List.mem_append_left _ hx))
      (args_stay hl hb ts vs' ds' q (fun u hu => hts u (List.mem_cons_of_mem _ hu)) (fun x hx => hlt x (List.mem_append_right _ hx)) h2)
/-- The row's word on a law that returned true. -/
theorem law_post (hl : laidOutB P = true) {f : Func} {s : ChangeSpec} {tb : TypeId} {W W' : World} {args : Array Value} {ds gs : List (DataW H)} {before : List MemPlace} (hv : s.vars = []) (hf : f.resultTypes = #[tb])
    (htb : P.underlying tb = some .bool) (hts : ∀ t, t ∈ f.params.toList → P.readableRec t = true ∧ t < P.types.size)
    (hW : DataW.Whole enc P f.params.toList s.vars false W args.toList ds gs before)
    (hfn : (s.fn H (ds ++ gs)).results = [.lit (.bool true)] ∧ (s.fn H (ds ++ gs)).args = ds ∧ (s.fn H (ds ++ gs)).vars = []) (hb : Below W.heap.size W W') :
    s.post enc P f false true false false W args (.bool true) W' := by
  have hlt : ∀ p ∈ before, p.block < W.heap.size := fun p hp => hW.lt p hp
  have hW0 := hW
  obtain ⟨p, q, hA, hV, rfl, hz, hn⟩ := hW
  refine ⟨ds, gs, p ++ q, [], p, [], hW0, ?_, ?_, ?_, hb.frame _, fun h => by cases h⟩
  · rw [hfn.1, hf]
    exact trodAll_cons_mk (shut_bool htb _) trodAll_mk0
  · rw [hfn.2.1]
    exact args_stay hl hb _ _ _ _ hts (fun x hx => hlt x (List.mem_append_left _ hx)) hA
  · rw [hfn.2.2, hv]
    exact rfl
end
open Vm
theorem own : ownKnob Try.prog.godebug = none := by kernel_rfl
theorem laid : laidOutB Try.prog = true := by kernel_rfl
theorem rd25 : Try.prog.readableRec 25 = true ∧ 25 < Try.prog.types.size := ⟨by kernel_rfl, of_decide_eq_true (by kernel_rfl)⟩
theorem rd9 : Try.prog.readableRec 9 = true ∧ 9 < Try.prog.types.size := ⟨by kernel_rfl, of_decide_eq_true (by kernel_rfl)⟩
end Sc
end Go.Proofs.Ytnefnnoleeeedaa
/- Mathematics: in the tree of a text each node's tokens are those of its kids, in order, apart, and others between. -/
namespace Go.Proofs.Ytnefnnoleeeedaa
namespace Ps
open Pg
variable {l : List Tok}
/-- Does a node of that kind have a word? -/
def named (k : Nat) : Prop := k = 5 ∨ k = 7 ∨ k = 8 ∨ k = 23
def nodeOK (l : List Tok) (h : Hd) (a t : Nat) : Prop := if h.kind = 0 then h.fro = 0 ∧ h.til = 0 ∧ h.word = e0 else a ≤ h.fro ∧ h.til ≤ t ∧ h.fro ≤ h.til ∧ ((h.word = e0 ∧ ¬ named h.kind) ∨ ((∃ j, h.word = textAt l j) ∧ h.fro ≤ h.at_ ∧ h.at_ < h.til))
def useOK (l : List Tok) (_h : Hd) : Fo → Prop
  | .nil => True
  | .cons hk kk r => kk = .nil ∧ r = .nil ∧ ∃ j, hk.word = textAt l j
/-- Nodes beside one another, from a place on up to another one. -/
def Apt (l : List Tok) : Fo → Nat → Nat → Prop
  | .nil, _, _ => True
  | .cons h k r, a, t => nodeOK l h a t ∧ (h.kind = 0 → k = .nil) ∧ (h.kind = 2 → useOK l h k) ∧ (h.kind ≠ 0 → h.kind ≠ 2 → Apt l k h.fro h.til) ∧ Apt l r (if h.kind = 0 then a else h.til) t
theorem nodeOK.mono {h : Hd} {a a' t t' : Nat} (hh : nodeOK l h a t) (ha : a' ≤ a) (ht : t ≤ t') : nodeOK l h a' t' := by
  unfold nodeOK at hh ⊢
  split at hh
  · rename_i h0; rw [if_pos h0]; exact hh
  · rename_i h0; rw [if_neg h0]; exact ⟨by omega, by omega, hh.2.2.1, hh.2.2.2⟩
theorem Apt.mono : ∀ {k : Fo} {a a' t t' : Nat}, Apt l k a t → a' ≤ a → t ≤ t' → Apt l k a' t'
  | .nil, _, _, _, _, _, _, _ => trivial
  | .cons h k r, a, a', t, t', ⟨h1, h2, h3, h4, h5⟩, ha, ht => ⟨h1.mono ha ht, h2, h3, h4, Apt.mono h5 (by split <;> omega) ht⟩
theorem Apt.app : ∀ {k m : Fo} {a y t : Nat}, Apt l k a y → Apt l m y t → a ≤ y → y ≤ t → Apt l (k.app m) a t
  | .nil, m, a, y, t, _, hm, ha, _ => hm.mono ha (Nat.le_refl _)
  | .cons h k r, m, a, y, t, ⟨h1, h2, h3, h4, h5⟩, hm, ha, ht => ⟨h1.mono (Nat.le_refl _) ht, h2, h3, h4, Apt.app h5 hm (by
      unfold nodeOK at h1
      split
      · exact ha
      · rename_i h0; rw [if_neg h0] at h1; exact h1.2.1) ht⟩
theorem Apt.zero (a t : Nat) : Apt l .zero a t := ⟨by unfold nodeOK; rw [if_pos rfl]; exact ⟨rfl, rfl, rfl⟩, fun _ => rfl, fun h => (by cases h), fun h => absurd rfl h, trivial⟩
/-- A node around nodes. -/
theorem Apt.one {h : Hd} {k : Fo} {a t x y : Nat} (h0 : h.kind ≠ 0) (h2 : h.kind ≠ 2) (hk : Apt l k x y) (hx : h.fro ≤ x) (hy : y ≤ h.til) (ha : a ≤ h.fro) (ht : h.til ≤ t) (hft : h.fro ≤ h.til) (hw : (h.word = e0 ∧ ¬ named h.kind) ∨ ((∃ j, h.word = textAt l j) ∧ h.fro ≤ h.at_ ∧ h.at_ < h.til)) : Apt l (.one h k) a t :=
  ⟨by unfold nodeOK; rw [if_neg h0]; exact ⟨ha, ht, hft, hw⟩, fun e => absurd e h0, fun e => absurd e h2, fun _ _ => hk.mono hx hy, trivial⟩
theorem wantM_good {b : Int} {i : Nat} {x : List UInt8} (h : (wantM l b i x).2 < 0) : b < 0 ∧ isM l i x = true ∧ wantM l b i x = (i + 1, b) := by
  unfold wantM at h ⊢
  split at h
  · exact absurd h (by dsimp only; omega)
  · split at h
    · rename_i h1 h2
      rw [if_neg h1, if_pos h2]
      exact ⟨by omega, h2, rfl⟩
    · exact absurd h (by dsimp only; omega)
theorem wordM_good {b : Int} {i : Nat} {hd : Hd} (h : (wordM l b hd i).2.2 < 0) : b < 0 ∧ kindAt l i = 1 ∧ wordM l b hd i = ({ hd with word := textAt l i, at_ := i }, i + 1, b) := by
  unfold wordM at h ⊢
  split at h
  · exact absurd h (by dsimp only; omega)
  · split at h
    · rename_i h1 h2
      rw [if_neg h1, if_pos h2]
      exact ⟨by omega, h2, rfl⟩
    · exact absurd h (by dsimp only; omega)
theorem exM_was {f : Nat} {t : XT} {b : Int} {i : Nat} {r : Fo × Nat × Int} (h : exM l f t b i = some r) (hr : r.2.2 < 0) : b < 0 := by
  by_cases hb : 0 ≤ b
  · have := exM_bad f t b i r hb h; omega
  · omega
end Ps
namespace Pg
open Ps
theorem isM_kind {l : List Tok} {i : Nat} {x : List UInt8} (h : isM l i x = true) : kindAt l i = 2 ∨ kindAt l i = 5 := by
  unfold isM at h
  unfold kindAt
  cases hl : l[i]? with
  | none => rw [hl] at h; cases h
  | some t =>
    rw [hl] at h
    simp only [Bool.and_eq_true, Bool.or_eq_true, beq_iff_eq] at h
    exact h.1
def closeM (l : List Tok) (f kd fr : Nat) (s : Sd) : Res := (exM l f .expr s.2 s.1).bind fun v => some (.one ⟨kd, fr, (wantM l v.2.2 v.2.1 sSem).1, e0, 0⟩ v.1, wantM l v.2.2 v.2.1 sSem)
def otherM (l : List Tok) (f : Nat) (s : Sd) : Res := if s.2 < 0 ∧ isM l s.1 kElse = true then exM l f .block s.2 (s.1 + 1) else some (.zero, s)
theorem wordM_snd {l : List Tok} (b : Int) (h h' : Hd) (i : Nat) : (wordM l b h i).2 = (wordM l b h' i).2 := by
  unfold wordM
  split
  · rfl
  · split <;> rfl
section
variable {l : List Tok} {f : Nat} {b : Int} {i p : Nat} {r : Fo × Nat × Int}
theorem st_word (h : exM l (f + 1) .stmt b i = some r) (hp : p = i) (hb : b < 0) (hk : kindAt l i = 1) (hq : isM l (i + 1) sEq = true) :
    ∃ v : Fo × Nat × Int, exM l f .expr b (i + 2) = some v ∧ r = (.one ⟨8, p, (wantM l v.2.2 v.2.1 sSem).1, textAt l i, i⟩ v.1, wantM l v.2.2 v.2.1 sSem) := by
  have no : ∀ x, isM l i x = false := fun x => by
    cases hx : isM l i x with
    | false => rfl
    | true => have := isM_kind hx; omega
  rw [exM, if_neg (by rw [no]; simp), if_neg (by rw [no]; simp), if_neg (by rw [no]; simp)] at h
  dsimp only at h
  rw [if_neg (by rw [no]; simp), if_neg (by rw [no]; simp), if_pos ⟨hk, hq⟩] at h
  have hw : wordM l b ⟨8, i, 0, e0, 0⟩ i = (⟨8, i, 0, textAt l i, i⟩, i + 1, b) := by unfold wordM; rw [if_neg (by omega), if_pos hk]
  rw [hw] at h
  obtain ⟨v, hv, h⟩ := Option.bind_eq_some_iff.1 h
  injection h with h
  exact ⟨v, hv, by rw [← h, hp]⟩
theorem st_let (h : exM l (f + 1) .stmt b i = some r) (hp : p = i) (hm : isM l i kLet = true) :
    ∃ t v : Fo × Nat × Int, typedM l f (wordM l b ⟨0, 0, 0, e0, 0⟩ (i + 1)).2.2 (wordM l b ⟨0, 0, 0, e0, 0⟩ (i + 1)).2.1 = some t ∧ exM l f .expr (wantM l t.2.2 t.2.1 sEq).2 (wantM l t.2.2 t.2.1 sEq).1 = some v ∧
      r = (.one { (wordM l b ⟨7, p, 0, e0, 0⟩ (i + 1)).1 with til := (wantM l v.2.2 v.2.1 sSem).1 } (t.1.app v.1), wantM l v.2.2 v.2.1 sSem) := by
  rw [exM, if_neg (by rw [isM_ne hm (by decide)]; simp), if_neg (by rw [isM_ne hm (by decide)]; simp), if_pos hm] at h
  dsimp only at h
  rw [wordM_snd b ⟨7, i, 0, e0, 0⟩ ⟨0, 0, 0, e0, 0⟩ (i + 1)] at h
  obtain ⟨t, ht, h⟩ := Option.bind_eq_some_iff.1 h
  obtain ⟨v, hv, h⟩ := Option.bind_eq_some_iff.1 h
  injection h with h
  exact ⟨t, v, ht, hv, by rw [← h, hp]⟩
theorem st_if (h : exM l (f + 1) .stmt b i = some r) (hp : p = i) (hm : isM l i kIf = true) :
    ∃ c k o : Fo × Nat × Int, exM l f .expr b (i + 1) = some c ∧ exM l f .block c.2.2 c.2.1 = some k ∧ otherM l f k.2 = some o ∧ r = (.one ⟨9, p, o.2.1, e0, 0⟩ (c.1.app (k.1.app o.1)), o.2) := by
  rw [exM, if_pos hm] at h
  obtain ⟨c, hc, h⟩ := Option.bind_eq_some_iff.1 h
  obtain ⟨k, hk, h⟩ := Option.bind_eq_some_iff.1 h
  split at h
  · rename_i hh
    obtain ⟨o, ho, h⟩ := Option.bind_eq_some_iff.1 h
    injection h with h
    exact ⟨c, k, o, hc, hk, by unfold otherM; rw [if_pos hh]; exact ho, by rw [← h, hp]⟩
  · rename_i hh
    injection h with h
    exact ⟨c, k, (.zero, k.2), hc, hk, by unfold otherM; rw [if_neg hh], by rw [← h, hp]⟩
theorem st_while (h : exM l (f + 1) .stmt b i = some r) (hp : p = i) (hm : isM l i kWhile = true) :
    ∃ c k : Fo × Nat × Int, exM l f .expr b (i + 1) = some c ∧ exM l f .block c.2.2 c.2.1 = some k ∧ r = (.one ⟨10, p, k.2.1, e0, 0⟩ (c.1.app k.1), k.2) := by
  rw [exM, if_neg (by rw [isM_ne hm (by decide)]; simp), if_pos hm] at h
  obtain ⟨c, hc, h⟩ := Option.bind_eq_some_iff.1 h
  obtain ⟨k, hk, h⟩ := Option.bind_eq_some_iff.1 h
  injection h with h
  exact ⟨c, k, hc, hk, by rw [← h, hp]⟩
theorem st_print (h : exM l (f + 1) .stmt b i = some r) (hp : p = i) (hm : isM l i kPrint = true) : closeM l f 11 p (i + 1, b) = some r := by
  rw [exM, if_neg (by rw [isM_ne hm (by decide)]; simp), if_neg (by rw [isM_ne hm (by decide)]; simp), if_neg (by rw [isM_ne hm (by decide)]; simp)] at h
  dsimp only at h
  rw [if_pos hm] at h
  rw [hp]
  exact h
theorem st_return (h : exM l (f + 1) .stmt b i = some r) (hp : p = i) (hm : isM l i kReturn = true) : closeM l f 12 p (i + 1, b) = some r := by
  rw [exM, if_neg (by rw [isM_ne hm (by decide)]; simp), if_neg (by rw [isM_ne hm (by decide)]; simp), if_neg (by rw [isM_ne hm (by decide)]; simp)] at h
  dsimp only at h
  rw [if_neg (by rw [isM_ne hm (by decide)]; simp), if_pos hm] at h
  rw [hp]
  exact h
theorem st_do (h : exM l (f + 1) .stmt b i = some r) (hp : p = i) (h1 : isM l i kLet = false) (h2 : isM l i kIf = false) (h3 : isM l i kWhile = false) (h4 : isM l i kPrint = false) (h5 : isM l i kReturn = false) (h6 : ¬ (kindAt l i = 1 ∧ isM l (i + 1) sEq = true)) : closeM l f 13 p (i, b) = some r := by
  rw [exM, if_neg (by rw [h2]; simp), if_neg (by rw [h3]; simp), if_neg (by rw [h1]; simp)] at h
  dsimp only at h
  rw [if_neg (by rw [h4]; simp), if_neg (by rw [h5]; simp), if_neg h6] at h
  rw [hp]
  exact h
theorem other_bad {s : Sd} (hb : 0 ≤ s.2) (h : otherM l f s = some r) : r.2.2 = s.2 := by
  unfold otherM at h
  rw [if_neg (fun hh => by have := hh.1; omega)] at h
  injection h with h
  rw [← h]
end
end Pg
namespace Ps
open Pg
variable {l : List Tok}
theorem want_g {b : Int} {i : Nat} {x : List UInt8} (h : (wantM l b i x).2 < 0) : b < 0 ∧ (wantM l b i x).1 = i + 1 ∧ (wantM l b i x).2 = b := by
  obtain ⟨h1, _, h3⟩ := wantM_good h
  rw [h3]; exact ⟨h1, rfl, rfl⟩
theorem word_g {b : Int} {i : Nat} {hd : Hd} (h : (wordM l b hd i).2.2 < 0) : b < 0 ∧ (wordM l b hd i).1 = { hd with word := textAt l i, at_ := i } ∧ (wordM l b hd i).2.1 = i + 1 ∧ (wordM l b hd i).2.2 = b := by
  obtain ⟨h1, _, h3⟩ := wordM_good h
  rw [h3]; exact ⟨h1, rfl, rfl, rfl⟩
theorem e0_size : ¬ e0.size ≠ 0 := by decide
theorem ty_was {f : Nat} {t : TT} {b : Int} {i : Nat} {r : Fo × Nat × Int} (h : tyM l f t b i = some r) (hr : r.2.2 < 0) : b < 0 := by
  by_cases hb : 0 ≤ b
  · have := tyM_bad hb h; omega
  · omega
theorem typed_was {f : Nat} {b : Int} {i : Nat} {r : Fo × Nat × Int} (h : typedM l f b i = some r) (hr : r.2.2 < 0) : b < 0 := by
  by_cases hb : 0 ≤ b
  · have := typedM_bad hb h; omega
  · omega
theorem ty_apt : ∀ (f : Nat) (t : TT) (b : Int) (i : Nat) (r : Fo × Nat × Int), tyM l f t b i = some r → r.2.2 < 0 → Apt l r.1 i r.2.1 ∧ i + sT t ≤ r.2.1 := by
  intro f
  induction f with
  | zero => intro t b i r h; rw [tyM] at h; cases h
  | succ f ih =>
    intro t b i r h hr
    have hb := ty_was h hr
    cases t with
    | kind =>
      simp only [sT]
      rw [tyM, if_neg (by omega)] at h
      split at h
      · injection h with h; subst h; exact ⟨Apt.one (by dsimp only; omega) (by dsimp only; omega) (show Apt l .nil i i from trivial) (Nat.le_refl _) (Nat.le_succ _) (Nat.le_refl _) (Nat.le_refl _) (Nat.le_succ _) (.inl ⟨rfl, by dsimp only [named]; first | omega | (split <;> omega)⟩), Nat.le_refl _⟩
      · split at h
        · injection h with h; subst h; exact ⟨Apt.one (by dsimp only; omega) (by dsimp only; omega) (show Apt l .nil i i from trivial) (Nat.le_refl _) (Nat.le_succ _) (Nat.le_refl _) (Nat.le_refl _) (Nat.le_succ _) (.inl ⟨rfl, by dsimp only [named]; first | omega | (split <;> omega)⟩), Nat.le_refl _⟩
        · split at h
          · injection h with h; subst h; exact ⟨Apt.one (by dsimp only; omega) (by dsimp only; omega) (show Apt l .nil i i from trivial) (Nat.le_refl _) (Nat.le_succ _) (Nat.le_refl _) (Nat.le_refl _) (Nat.le_succ _) (.inl ⟨rfl, by dsimp only [named]; first | omega | (split <;> omega)⟩), Nat.le_refl _⟩
          · split at h
            · obtain ⟨x, hx, h⟩ := Option.bind_eq_some_iff.1 h
              injection h with h; subst h
              obtain ⟨g1, g2, _⟩ := want_g hr
              obtain ⟨a1, a2⟩ := ih _ _ _ _ hx g1
              dsimp only at *
              refine ⟨Apt.one (by dsimp only; omega) (by dsimp only; omega) a1 (by dsimp only; omega) (by dsimp only; omega) (Nat.le_refl _) (Nat.le_refl _) (by dsimp only; omega) (.inl ⟨rfl, by dsimp only [named]; first | omega | (split <;> omega)⟩), by omega⟩
            · obtain ⟨x, hx, h⟩ := Option.bind_eq_some_iff.1 h
              obtain ⟨t, ht, h⟩ := Option.bind_eq_some_iff.1 h
              injection h with h; subst h
              obtain ⟨b1, b2⟩ := ih _ _ _ _ ht hr
              have g4 := ty_was ht hr
              obtain ⟨g3, q4, _⟩ := want_g g4
              obtain ⟨g2, q3, _⟩ := want_g g3
              obtain ⟨a1, a2⟩ := ih _ _ _ _ hx g2
              have g1 := ty_was hx g2
              obtain ⟨g0, q2, _⟩ := want_g g1
              obtain ⟨_, q1, _⟩ := want_g g0
              simp only [sT] at b2
              dsimp only at *
              refine ⟨Apt.one (by dsimp only; omega) (by dsimp only; omega) (Apt.app a1 (b1.mono (by omega) (Nat.le_refl _)) (by omega) (by omega)) (by dsimp only; omega) (Nat.le_refl _) (Nat.le_refl _) (Nat.le_refl _) (by dsimp only; omega) (.inl ⟨rfl, by dsimp only [named]; first | omega | (split <;> omega)⟩), by omega⟩
    | recL first =>
      simp only [sT]
      rw [tyM] at h
      split at h
      · obtain ⟨t, ht, h⟩ := Option.bind_eq_some_iff.1 h
        have key : t.2.2 < 0 → Apt l (.one { (wordM l b ⟨33, i, 0, e0, 0⟩ i).1 with til := t.2.1 } t.1) i t.2.1 ∧ i ≤ t.2.1 := fun hg => by
          obtain ⟨a1, a2⟩ := ih _ _ _ _ ht hg
          have g2 := ty_was ht hg
          obtain ⟨g1, q2, _⟩ := want_g g2
          obtain ⟨_, q0, q1, _⟩ := word_g g1
          rw [q0]
          simp only [sT] at a2
          refine ⟨Apt.one (by dsimp only; omega) (by dsimp only; omega) a1 (by dsimp only; omega) (Nat.le_refl _) (Nat.le_refl _) (Nat.le_refl _) (by dsimp only; omega) (.inr ⟨⟨_, rfl⟩, Nat.le_refl _, by dsimp only; omega⟩), by omega⟩
        split at h
        · injection h with h; subst h
          exact key hr
        · obtain ⟨x, hx, h⟩ := Option.map_eq_some_iff.1 h
          subst h
          obtain ⟨c1, c2⟩ := ih _ _ _ _ hx hr
          have g4 := ty_was hx hr
          obtain ⟨g3, q3, _⟩ := want_g g4
          obtain ⟨d1, d2⟩ := key g3
          simp only [sT] at c2
          exact ⟨Apt.app d1 (c1.mono (by omega) (Nat.le_refl _)) d2 (by dsimp only; omega), by dsimp only; omega⟩
      · injection h with h; subst h; exact ⟨trivial, Nat.le_refl _⟩
    | fnL first =>
      simp only [sT]
      rw [tyM] at h
      split at h
      · obtain ⟨t, ht, h⟩ := Option.bind_eq_some_iff.1 h
        split at h
        · injection h with h; subst h
          obtain ⟨a1, a2⟩ := ih _ _ _ _ ht hr
          simp only [sT] at a2
          exact ⟨a1, by dsimp only; omega⟩
        · obtain ⟨x, hx, h⟩ := Option.map_eq_some_iff.1 h
          subst h
          obtain ⟨c1, c2⟩ := ih _ _ _ _ hx hr
          have g4 := ty_was hx hr
          obtain ⟨g3, q3, _⟩ := want_g g4
          obtain ⟨d1, d2⟩ := ih _ _ _ _ ht g3
          simp only [sT] at c2
          simp only [sT] at d2
          exact ⟨Apt.app d1 (c1.mono (by omega) (Nat.le_refl _)) (by omega) (by dsimp only; omega), by dsimp only; omega⟩
      · injection h with h; subst h; exact ⟨trivial, Nat.le_refl _⟩
theorem typed_apt {f : Nat} {b : Int} {i : Nat} {r : Fo × Nat × Int} (h : typedM l f b i = some r) (hr : r.2.2 < 0) : Apt l r.1 i r.2.1 ∧ i ≤ r.2.1 := by
  unfold typedM at h
  split at h
  · injection h with h; subst h; exact ⟨Apt.zero _ _, Nat.le_refl _⟩
  · obtain ⟨a1, a2⟩ := ty_apt _ _ _ _ _ h hr
    simp only [sT] at a2
    exact ⟨a1.mono (by omega) (Nat.le_refl _), by omega⟩
theorem parL_was {f : Nat} {first : Bool} {b : Int} {i : Nat} {r : Fo × Nat × Int} (h : parL l f first b i = some r) (hr : r.2.2 < 0) : b < 0 := by
  by_cases hb : 0 ≤ b
  · have := parL_bad hb h; omega
  · omega
theorem par_apt : ∀ (f : Nat) (first : Bool) (b : Int) (i : Nat) (r : Fo × Nat × Int), parL l f first b i = some r → r.2.2 < 0 → Apt l r.1 i r.2.1 ∧ i ≤ r.2.1 := by
  intro f
  induction f with
  | zero => intro first b i r h; rw [parL] at h; cases h
  | succ f ih =>
    intro first b i r h hr
    rw [parL] at h
    split at h
    · obtain ⟨t, ht, h⟩ := Option.bind_eq_some_iff.1 h
      have key : t.2.2 < 0 → Apt l (.one { (wordM l b ⟨5, i, 0, e0, 0⟩ i).1 with til := t.2.1 } t.1) i t.2.1 ∧ i ≤ t.2.1 := fun hg => by
        obtain ⟨a1, a2⟩ := typed_apt ht hg
        have g1 := typed_was ht hg
        obtain ⟨_, q0, q1, _⟩ := word_g g1
        rw [q0]
        exact ⟨Apt.one (by dsimp only; omega) (by dsimp only; omega) a1 (by dsimp only; omega) (Nat.le_refl _) (Nat.le_refl _) (Nat.le_refl _) (by dsimp only; omega) (.inr ⟨⟨_, rfl⟩, Nat.le_refl _, by dsimp only; omega⟩), by omega⟩
      split at h
      · injection h with h; subst h; exact key hr
      · obtain ⟨x, hx, h⟩ := Option.map_eq_some_iff.1 h
        subst h
        obtain ⟨c1, c2⟩ := ih _ _ _ _ hx hr
        have g4 := parL_was hx hr
        obtain ⟨g3, q3, _⟩ := want_g g4
        obtain ⟨d1, d2⟩ := key g3
        exact ⟨Apt.app d1 (c1.mono (by omega) (Nat.le_refl _)) d2 (by dsimp only; omega), by dsimp only; omega⟩
    · injection h with h; subst h; exact ⟨trivial, Nat.le_refl _⟩
theorem params_apt {f : Nat} {b : Int} {i : Nat} {r : Fo × Nat × Int} (h : paramsM l f b i = some r) (hr : r.2.2 < 0) : Apt l r.1 i r.2.1 ∧ i < r.2.1 := by
  unfold paramsM at h
  obtain ⟨x, hx, h⟩ := Option.bind_eq_some_iff.1 h
  injection h with h; subst h
  obtain ⟨g2, q2, _⟩ := want_g hr
  obtain ⟨a1, a2⟩ := par_apt _ _ _ _ _ hx g2
  have g1 := parL_was hx g2
  obtain ⟨_, q1, _⟩ := want_g g1
  dsimp only at *
  exact ⟨Apt.one (by dsimp only; omega) (by dsimp only; omega) a1 (by dsimp only; omega) (by dsimp only; omega) (Nat.le_refl _) (Nat.le_refl _) (by dsimp only; omega) (.inl ⟨rfl, by dsimp only [named]; first | omega | (split <;> omega)⟩), by omega⟩
def Pre (l : List Tok) : XT → Nat → Prop
  | .sumL a, i | .termL a, i | .postL a, i => Apt l a a.from_ i ∧ a.from_ ≤ i
  | _, _ => True
def Post (l : List Tok) : XT → Nat → Fo → Nat → Prop
  | .sumL a, i, k, j | .termL a, i, k, j | .postL a, i, k, j => Apt l k k.from_ j ∧ k.from_ = a.from_ ∧ i ≤ j
  | .stmts, i, k, j | .args _, i, k, j | .entries _, i, k, j => Apt l k i j ∧ i ≤ j
  | .expr, i, k, j | .sum, i, k, j | .term, i, k, j | .post, i, k, j | .atom, i, k, j => Apt l k i j ∧ i < j ∧ k.from_ = i
  | _, i, k, j => Apt l k i j ∧ i < j
theorem ex_apt : ∀ (f : Nat) (t : XT) (b : Int) (i : Nat) (r : Fo × Nat × Int), exM l f t b i = some r → r.2.2 < 0 → Pre l t i → Post l t i r.1 r.2.1 := by
  intro f
  induction f with
  | zero => intro t b i r h; rw [exM] at h; cases h
  | succ f ih =>
    intro t b i r h hr hpre
    have hb := exM_was h hr
    cases t with
    | lambda =>
      rw [exM] at h
      obtain ⟨p, h1, h⟩ := Option.bind_eq_some_iff.1 h
      obtain ⟨t, h2, h⟩ := Option.bind_eq_some_iff.1 h
      obtain ⟨k, h3, h⟩ := Option.bind_eq_some_iff.1 h
      injection h with h; subst h
      obtain ⟨a3, q3⟩ := ih _ _ _ _ h3 hr trivial
      have g2 := exM_was h3 hr
      obtain ⟨a2, q2⟩ := typed_apt h2 g2
      have g1 := typed_was h2 g2
      obtain ⟨a1, q1⟩ := params_apt h1 g1
      exact ⟨Apt.app a1 (Apt.app a2 a3 q2 (by dsimp only; omega)) (by omega) (by dsimp only; omega), by dsimp only; omega⟩
    | block =>
      rw [exM] at h
      obtain ⟨x, h1, h⟩ := Option.bind_eq_some_iff.1 h
      injection h with h; subst h
      obtain ⟨g2, q2, _⟩ := want_g hr
      obtain ⟨a1, q1⟩ := ih _ _ _ _ h1 g2 trivial
      have g1 := exM_was h1 g2
      obtain ⟨_, q0, _⟩ := want_g g1
      dsimp only at *
      exact ⟨Apt.one (by dsimp only; omega) (by dsimp only; omega) a1 (by dsimp only; omega) (by dsimp only; omega) (Nat.le_refl _) (Nat.le_refl _) (by dsimp only; omega) (.inl ⟨rfl, by dsimp only [named]; first | omega | (split <;> omega)⟩), by omega⟩
    | stmts =>
      rw [exM] at h
      split at h
      · obtain ⟨x, h1, h⟩ := Option.bind_eq_some_iff.1 h
        obtain ⟨y, h2, h⟩ := Option.map_eq_some_iff.1 h
        subst h
        obtain ⟨a2, q2⟩ := ih _ _ _ _ h2 hr trivial
        obtain ⟨a1, q1⟩ := ih _ _ _ _ h1 (exM_was h2 hr) trivial
        exact ⟨Apt.app a1 a2 (by omega) q2, by dsimp only; omega⟩
      · injection h with h; subst h; exact ⟨trivial, Nat.le_refl _⟩
    | stmt =>
      by_cases hif : isM l i kIf = true
      · obtain ⟨c, k, o, hc, hk, ho, e⟩ := st_if h rfl hif
        subst e
        have gk : k.2.2 < 0 := by
          by_cases hh : 0 ≤ k.2.2
          · have := other_bad hh ho; dsimp only at hr; omega
          · omega
        have ao : Apt l o.1 k.2.1 o.2.1 ∧ k.2.1 ≤ o.2.1 := by
          unfold otherM at ho
          split at ho
          · obtain ⟨a3, q3⟩ := ih _ _ _ _ ho hr trivial
            exact ⟨a3.mono (by omega) (Nat.le_refl _), by omega⟩
          · injection ho with ho; rw [← ho]; exact ⟨Apt.zero _ _, Nat.le_refl _⟩
        obtain ⟨a2, q2⟩ := ih _ _ _ _ hk gk trivial
        obtain ⟨a1, q1, _⟩ := ih _ _ _ _ hc (exM_was hk gk) trivial
        exact ⟨Apt.one (by dsimp only; omega) (by dsimp only; omega) (Apt.app a1 (Apt.app a2 ao.1 (by omega) ao.2) (by omega) (by omega)) (by dsimp only; omega) (Nat.le_refl _) (Nat.le_refl _) (Nat.le_refl _) (by dsimp only; omega) (.inl ⟨rfl, by dsimp only [named]; first | omega | (split <;> omega)⟩), by dsimp only; omega⟩
      · by_cases hwh : isM l i kWhile = true
        · obtain ⟨c, k, hc, hk, e⟩ := st_while h rfl hwh
          subst e
          obtain ⟨a2, q2⟩ := ih _ _ _ _ hk hr trivial
          obtain ⟨a1, q1, _⟩ := ih _ _ _ _ hc (exM_was hk hr) trivial
          exact ⟨Apt.one (by dsimp only; omega) (by dsimp only; omega) (Apt.app a1 a2 (by omega) (by omega)) (by dsimp only; omega) (Nat.le_refl _) (Nat.le_refl _) (Nat.le_refl _) (by dsimp only; omega) (.inl ⟨rfl, by dsimp only [named]; first | omega | (split <;> omega)⟩), by dsimp only; omega⟩
        · by_cases hlet : isM l i kLet = true
          · obtain ⟨t, v, ht, hv, e⟩ := st_let h rfl hlet
            subst e
            obtain ⟨g3, q3, _⟩ := want_g hr
            obtain ⟨a2, q2, _⟩ := ih _ _ _ _ hv g3 trivial
            have g2 := exM_was hv g3
            obtain ⟨g1, q1, _⟩ := want_g g2
            obtain ⟨a1, p1⟩ := typed_apt ht g1
            have g0 := typed_was ht g1
            have e1 : (wordM l b ⟨7, i, 0, e0, 0⟩ (i + 1)).2 = (wordM l b ⟨0, 0, 0, e0, 0⟩ (i + 1)).2 := wordM_snd _ _ _ _
            rw [← e1] at g0 a1 p1
            obtain ⟨_, w0, w1, _⟩ := word_g g0
            rw [w0]
            dsimp only at *
            exact ⟨Apt.one (by dsimp only; omega) (by dsimp only; omega) (Apt.app a1 (a2.mono (by omega) (Nat.le_refl _)) p1 (by omega)) (by dsimp only; omega) (by dsimp only; omega) (Nat.le_refl _) (Nat.le_refl _) (by dsimp only; omega) (.inr ⟨⟨_, rfl⟩, by dsimp only; omega, by dsimp only; omega⟩), by omega⟩
          · have close : ∀ (kd j : Nat), kd ≠ 0 → kd ≠ 2 → ¬ named kd → i ≤ j → closeM l f kd i (j, b) = some r → Post l .stmt i r.1 r.2.1 := fun kd j k0 k2 kn hj hc => by
              unfold closeM at hc
              obtain ⟨v, hv, e⟩ := Option.bind_eq_some_iff.1 hc
              injection e with e; subst e
              obtain ⟨g1, q1, _⟩ := want_g hr
              obtain ⟨a1, p1, _⟩ := ih _ _ _ _ hv g1 trivial
              dsimp only at *
              exact ⟨Apt.one k0 k2 a1 (by dsimp only; omega) (by dsimp only; omega) (Nat.le_refl _) (Nat.le_refl _) (by dsimp only; omega) (.inl ⟨rfl, kn⟩), by omega⟩
            by_cases hpr : isM l i kPrint = true
            · exact close 11 (i + 1) (by omega) (by omega) (by unfold named; omega) (by omega) (st_print h rfl hpr)
            · by_cases hre : isM l i kReturn = true
              · exact close 12 (i + 1) (by omega) (by omega) (by unfold named; omega) (by omega) (st_return h rfl hre)
              · by_cases hse : kindAt l i = 1 ∧ isM l (i + 1) sEq = true
                · obtain ⟨v, hv, e⟩ := st_word h rfl hb hse.1 hse.2
                  subst e
                  obtain ⟨g1, q1, _⟩ := want_g hr
                  obtain ⟨a1, p1, _⟩ := ih _ _ _ _ hv g1 trivial
                  dsimp only at *
                  exact ⟨Apt.one (by dsimp only; omega) (by dsimp only; omega) a1 (by dsimp only; omega) (by dsimp only; omega) (Nat.le_refl _) (Nat.le_refl _) (by dsimp only; omega) (.inr ⟨⟨_, rfl⟩, Nat.le_refl _, by dsimp only; omega⟩), by omega⟩
                · exact close 13 i (by omega) (by omega) (by unfold named; omega) (by omega) (st_do h rfl (by simpa using hlet) (by simpa using hif) (by simpa using hwh) (by simpa using hpr) (by simpa using hre) hse)
    | expr =>
      rw [exM] at h
      obtain ⟨a, h1, h⟩ := Option.bind_eq_some_iff.1 h
      split at h
      · injection h with h; subst h
        have hh := ih _ _ _ _ h1 hr trivial
        exact hh
      · obtain ⟨c, h2, h⟩ := Option.bind_eq_some_iff.1 h
        injection h with h; subst h
        obtain ⟨a2, q2, _⟩ := ih _ _ _ _ h2 hr trivial
        obtain ⟨a1, q1, p1⟩ := ih _ _ _ _ h1 (exM_was h2 hr) trivial
        dsimp only at *
        rw [p1]
        exact ⟨Apt.one (by dsimp only; split <;> omega) (by dsimp only; split <;> omega) (Apt.app a1 (a2.mono (by omega) (Nat.le_refl _)) (by omega) (by omega)) (Nat.le_refl _) (Nat.le_refl _) (Nat.le_refl _) (Nat.le_refl _) (by dsimp only; omega) (.inl ⟨rfl, by dsimp only [named]; first | omega | (split <;> omega)⟩), by omega, rfl⟩
    | sum =>
      rw [exM] at h
      obtain ⟨a, h1, h⟩ := Option.bind_eq_some_iff.1 h
      obtain ⟨a1, q1, p1⟩ := ih _ _ _ _ h1 (exM_was h hr) trivial
      obtain ⟨a2, q2, p2⟩ := ih _ _ _ _ h hr (show Apt l a.1 a.1.from_ a.2.1 ∧ a.1.from_ ≤ a.2.1 by rw [p1]; exact ⟨a1, by omega⟩)
      rw [q2, p1] at a2
      exact ⟨a2, by omega, by rw [q2, p1]⟩
    | term =>
      rw [exM] at h
      obtain ⟨a, h1, h⟩ := Option.bind_eq_some_iff.1 h
      obtain ⟨a1, q1, p1⟩ := ih _ _ _ _ h1 (exM_was h hr) trivial
      obtain ⟨a2, q2, p2⟩ := ih _ _ _ _ h hr (show Apt l a.1 a.1.from_ a.2.1 ∧ a.1.from_ ≤ a.2.1 by rw [p1]; exact ⟨a1, by omega⟩)
      rw [q2, p1] at a2
      exact ⟨a2, by omega, by rw [q2, p1]⟩
    | post =>
      rw [exM] at h
      obtain ⟨a, h1, h⟩ := Option.bind_eq_some_iff.1 h
      obtain ⟨a1, q1, p1⟩ := ih _ _ _ _ h1 (exM_was h hr) trivial
      obtain ⟨a2, q2, p2⟩ := ih _ _ _ _ h hr (show Apt l a.1 a.1.from_ a.2.1 ∧ a.1.from_ ≤ a.2.1 by rw [p1]; exact ⟨a1, by omega⟩)
      rw [q2, p1] at a2
      exact ⟨a2, by omega, by rw [q2, p1]⟩
    | sumL a =>
      obtain ⟨pa, pf⟩ := hpre
      rw [exM] at h
      split at h
      · obtain ⟨c, h1, h⟩ := Option.bind_eq_some_iff.1 h
        obtain ⟨a1, q1, _⟩ := ih _ _ _ _ h1 (exM_was h hr) trivial
        obtain ⟨a2, q2, p2⟩ := ih _ _ _ _ h hr ⟨Apt.one (by dsimp only; split <;> omega) (by dsimp only; split <;> omega) (Apt.app pa (a1.mono (by omega) (Nat.le_refl _)) pf (by omega)) (Nat.le_refl _) (Nat.le_refl _) (Nat.le_refl _) (Nat.le_refl _) (by dsimp only; omega) (.inl ⟨rfl, by dsimp only [named]; first | omega | (split <;> omega)⟩), by show a.from_ ≤ _; omega⟩
        exact ⟨a2, q2, by omega⟩
      · injection h with h; subst h; exact ⟨pa, rfl, Nat.le_refl _⟩
    | termL a =>
      obtain ⟨pa, pf⟩ := hpre
      rw [exM] at h
      split at h
      · obtain ⟨c, h1, h⟩ := Option.bind_eq_some_iff.1 h
        obtain ⟨a1, q1, _⟩ := ih _ _ _ _ h1 (exM_was h hr) trivial
        obtain ⟨a2, q2, p2⟩ := ih _ _ _ _ h hr ⟨Apt.one (by dsimp only; omega) (by dsimp only; omega) (Apt.app pa (a1.mono (by omega) (Nat.le_refl _)) pf (by omega)) (Nat.le_refl _) (Nat.le_refl _) (Nat.le_refl _) (Nat.le_refl _) (by dsimp only; omega) (.inl ⟨rfl, by dsimp only [named]; first | omega | (split <;> omega)⟩), by show a.from_ ≤ _; omega⟩
        exact ⟨a2, q2, by omega⟩
      · injection h with h; subst h; exact ⟨pa, rfl, Nat.le_refl _⟩
    | postL a =>
      obtain ⟨pa, pf⟩ := hpre
      rw [exM] at h
      split at h
      · split at h
        · have g1 := exM_was h hr
          obtain ⟨_, w0, w1, _⟩ := word_g g1
          dsimp only at h
          rw [w0] at h
          obtain ⟨a2, q2, p2⟩ := ih _ _ _ _ h hr ⟨Apt.one (by dsimp only; omega) (by dsimp only; omega) pa (Nat.le_refl _) (by dsimp only; omega) (Nat.le_refl _) (Nat.le_refl _) (by dsimp only; omega) (.inr ⟨⟨_, rfl⟩, by dsimp only; omega, by dsimp only; omega⟩), by show a.from_ ≤ _; omega⟩
          exact ⟨a2, q2, by omega⟩
        · obtain ⟨k, h1, h⟩ := Option.bind_eq_some_iff.1 h
          have g2 := exM_was h hr
          obtain ⟨g1, q3, _⟩ := want_g g2
          obtain ⟨a1, q1⟩ := ih _ _ _ _ h1 g1 trivial
          obtain ⟨a2, q2, p2⟩ := ih _ _ _ _ h hr ⟨Apt.one (by dsimp only; omega) (by dsimp only; omega) (Apt.app pa (a1.mono (by omega) (Nat.le_refl _)) pf (by omega)) (Nat.le_refl _) (by dsimp only; omega) (Nat.le_refl _) (Nat.le_refl _) (by dsimp only; omega) (.inl ⟨rfl, by dsimp only [named]; first | omega | (split <;> omega)⟩), by show a.from_ ≤ _; omega⟩
          exact ⟨a2, q2, by omega⟩
      · injection h with h; subst h; exact ⟨pa, rfl, Nat.le_refl _⟩
    | args first =>
      rw [exM] at h
      split at h
      · obtain ⟨t, h1, h⟩ := Option.bind_eq_some_iff.1 h
        split at h
        · injection h with h; subst h
          obtain ⟨a1, q1, _⟩ := ih _ _ _ _ h1 hr trivial
          exact ⟨a1, by dsimp only; omega⟩
        · obtain ⟨y, h2, h⟩ := Option.map_eq_some_iff.1 h
          subst h
          obtain ⟨a2, q2⟩ := ih _ _ _ _ h2 hr trivial
          obtain ⟨g1, q3, _⟩ := want_g (exM_was h2 hr)
          obtain ⟨a1, q1, _⟩ := ih _ _ _ _ h1 g1 trivial
          exact ⟨Apt.app a1 (a2.mono (by omega) (Nat.le_refl _)) (by omega) (by dsimp only; omega), by dsimp only; omega⟩
      · injection h with h; subst h; exact ⟨trivial, Nat.le_refl _⟩
    | atom =>
      have leaf : ∀ kd : Nat, kd ≠ 0 → kd ≠ 2 → r = (.one ⟨kd, i, i + 1, textAt l i, i⟩ .nil, i + 1, b) → Post l .atom i r.1 r.2.1 := fun kd k0 k2 e => by
        subst e
        exact ⟨Apt.one k0 k2 (show Apt l .nil i i from trivial) (Nat.le_refl _) (Nat.le_succ _) (Nat.le_refl _) (Nat.le_refl _) (Nat.le_succ _) (.inr ⟨⟨_, rfl⟩, Nat.le_refl _, Nat.lt_succ_self _⟩), Nat.lt_succ_self _, rfl⟩
      rw [exM, if_neg (by omega)] at h
      split at h
      · injection h with h; exact leaf 21 (by omega) (by omega) h.symm
      · split at h
        · injection h with h; exact leaf 22 (by omega) (by omega) h.symm
        · split at h
          · injection h with h; exact leaf 23 (by omega) (by omega) h.symm
          · split at h
            · injection h with h; subst h
              exact ⟨Apt.one (by dsimp only; omega) (by dsimp only; omega) (show Apt l .nil i i from trivial) (Nat.le_refl _) (Nat.le_succ _) (Nat.le_refl _) (Nat.le_refl _) (Nat.le_succ _) (.inl ⟨rfl, by dsimp only [named]; first | omega | (split <;> omega)⟩), Nat.lt_succ_self _, rfl⟩
            · split at h
              · obtain ⟨x, h1, h⟩ := Option.bind_eq_some_iff.1 h
                injection h with h; subst h
                obtain ⟨g1, q1, _⟩ := want_g hr
                obtain ⟨a1, p1, _⟩ := ih _ _ _ _ h1 g1 trivial
                dsimp only at *
                exact ⟨Apt.one (by dsimp only; omega) (by dsimp only; omega) a1 (by dsimp only; omega) (by dsimp only; omega) (Nat.le_refl _) (Nat.le_refl _) (by dsimp only; omega) (.inl ⟨rfl, by dsimp only [named]; first | omega | (split <;> omega)⟩), by omega, rfl⟩
              · split at h
                · obtain ⟨x, h1, h⟩ := Option.bind_eq_some_iff.1 h
                  injection h with h; subst h
                  obtain ⟨g1, q1, _⟩ := want_g hr
                  obtain ⟨a1, p1⟩ := ih _ _ _ _ h1 g1 trivial
                  dsimp only at *
                  exact ⟨Apt.one (by dsimp only; omega) (by dsimp only; omega) a1 (by dsimp only; omega) (by dsimp only; omega) (Nat.le_refl _) (Nat.le_refl _) (by dsimp only; omega) (.inl ⟨rfl, by dsimp only [named]; first | omega | (split <;> omega)⟩), by omega, rfl⟩
                · obtain ⟨x, h1, h⟩ := Option.bind_eq_some_iff.1 h
                  injection h with h; subst h
                  obtain ⟨a1, p1⟩ := ih _ _ _ _ h1 hr trivial
                  obtain ⟨_, q1, _⟩ := want_g (exM_was h1 hr)
                  dsimp only at *
                  exact ⟨Apt.one (by dsimp only; omega) (by dsimp only; omega) a1 (by dsimp only; omega) (Nat.le_refl _) (Nat.le_refl _) (Nat.le_refl _) (by dsimp only; omega) (.inl ⟨rfl, by dsimp only [named]; first | omega | (split <;> omega)⟩), by omega, rfl⟩
    | entries first =>
      rw [exM] at h
      split at h
      · obtain ⟨t, h1, h⟩ := Option.bind_eq_some_iff.1 h
        have key : t.2.2 < 0 → Apt l (.one { (wordM l b ⟨27, i, 0, e0, 0⟩ i).1 with til := t.2.1 } t.1) i t.2.1 ∧ i ≤ t.2.1 := fun hg => by
          obtain ⟨a1, a2, _⟩ := ih _ _ _ _ h1 hg trivial
          obtain ⟨g1, q2, _⟩ := want_g (exM_was h1 hg)
          obtain ⟨_, q0, q1, _⟩ := word_g g1
          rw [q0]
          exact ⟨Apt.one (by dsimp only; omega) (by dsimp only; omega) a1 (by dsimp only; omega) (Nat.le_refl _) (Nat.le_refl _) (Nat.le_refl _) (by dsimp only; omega) (.inr ⟨⟨_, rfl⟩, Nat.le_refl _, by dsimp only; omega⟩), by omega⟩
        split at h
        · injection h with h; subst h; exact key hr
        · obtain ⟨y, h2, h⟩ := Option.map_eq_some_iff.1 h
          subst h
          obtain ⟨a2, q2⟩ := ih _ _ _ _ h2 hr trivial
          obtain ⟨g1, q3, _⟩ := want_g (exM_was h2 hr)
          obtain ⟨a1, q1⟩ := key g1
          exact ⟨Apt.app a1 (a2.mono (by omega) (Nat.le_refl _)) q1 (by dsimp only; omega), by dsimp only; omega⟩
      · injection h with h; subst h; exact ⟨trivial, Nat.le_refl _⟩
theorem use_apt {b : Int} {i : Nat} (hr : (useM l b i).2.2 < 0) : Apt l (useM l b i).1 i (useM l b i).2.1 ∧ i ≤ (useM l b i).2.1 := by
  unfold useM at hr ⊢
  dsimp only at *
  obtain ⟨g3, q3, _⟩ := want_g hr
  obtain ⟨g2, w2, q2, _⟩ := word_g g3
  obtain ⟨g1, q1, _⟩ := want_g g2
  obtain ⟨_, w0, q0, _⟩ := word_g g1
  rw [w2, w0]
  refine ⟨⟨?_, fun h => (by cases h), fun _ => ⟨rfl, rfl, _, rfl⟩, fun _ h => absurd rfl h, trivial⟩, by omega⟩
  unfold nodeOK
  dsimp only
  rw [if_neg (by omega)]
  exact ⟨Nat.le_refl _, Nat.le_refl _, by omega, .inr ⟨⟨_, rfl⟩, by omega, by omega⟩⟩
theorem def_apt {f : Nat} {b : Int} {i : Nat} {r : Fo × Nat × Int} (h : defM l f b i = some r) (hr : r.2.2 < 0) : Apt l r.1 i r.2.1 ∧ i ≤ r.2.1 := by
  unfold defM at h
  obtain ⟨k, h1, h⟩ := Option.bind_eq_some_iff.1 h
  injection h with h; subst h
  obtain ⟨a1, p1⟩ := ex_apt _ _ _ _ _ h1 hr trivial
  obtain ⟨g1, w0, q0, _⟩ := word_g (exM_was h1 hr)
  obtain ⟨_, q1, _⟩ := want_g g1
  dsimp only at *
  rw [w0]
  exact ⟨Apt.one (by dsimp only; omega) (by dsimp only; omega) a1 (by dsimp only; omega) (Nat.le_refl _) (Nat.le_refl _) (Nat.le_refl _) (by dsimp only; omega) (.inr ⟨⟨_, rfl⟩, by dsimp only; omega, by dsimp only; omega⟩), by omega⟩
theorem items_apt : ∀ (f : Nat) (b : Int) (i : Nat) (r : Fo × Nat × Int), itemsM l f b i = some r → r.2.2 < 0 → Apt l r.1 i r.2.1 ∧ i ≤ r.2.1 ∧ kindAt l r.2.1 = 0 := by
  intro f
  induction f with
  | zero => intro b i r h; rw [itemsM] at h; cases h
  | succ f ih =>
    intro b i r h hr
    have hb : b < 0 := by
      by_cases hh : 0 ≤ b
      · have := items_bad hh h; omega
      · omega
    have was : ∀ {g : Nat} {c : Int} {j : Nat} {y : Fo × Nat × Int}, itemsM l g c j = some y → y.2.2 < 0 → c < 0 := fun hy hg => by
      rename_i c _ _
      by_cases hh : 0 ≤ c
      · have := items_bad hh hy; omega
      · omega
    rw [itemsM] at h
    split at h
    · split at h
      · obtain ⟨x, h1, h⟩ := Option.map_eq_some_iff.1 h
        subst h
        obtain ⟨a2, q2, z2⟩ := ih _ _ _ h1 hr
        obtain ⟨a1, q1⟩ := use_apt (was h1 hr)
        exact ⟨Apt.app a1 a2 q1 q2, by dsimp only; omega, z2⟩
      · obtain ⟨t, h0, h⟩ := Option.bind_eq_some_iff.1 h
        obtain ⟨x, h1, h⟩ := Option.map_eq_some_iff.1 h
        subst h
        obtain ⟨a2, q2, z2⟩ := ih _ _ _ h1 hr
        obtain ⟨a1, q1⟩ := def_apt h0 (was h1 hr)
        exact ⟨Apt.app a1 a2 q1 q2, by dsimp only; omega, z2⟩
    · rename_i hc
      injection h with h; subst h
      refine ⟨trivial, Nat.le_refl _, ?_⟩
      dsimp only
      by_cases hk : kindAt l i = 0
      · exact hk
      · exact absurd ⟨hb, hk⟩ hc
/-- Items only. -/
def Its : Fo → Prop
  | .nil => True
  | .cons h _ r => (h.kind = 2 ∨ h.kind = 3) ∧ Its r
theorem Its.app : ∀ {a b : Fo}, Its a → Its b → Its (a.app b)
  | .nil, _, _, hb => hb
  | .cons _ _ _, _, ha, hb => ⟨ha.1, Its.app ha.2 hb⟩
theorem word_kind (b : Int) (h : Hd) (i : Nat) : (wordM l b h i).1.kind = h.kind := by
  unfold wordM
  split
  · rfl
  · split <;> rfl
theorem items_its : ∀ (f : Nat) (b : Int) (i : Nat) (r : Fo × Nat × Int), itemsM l f b i = some r → Its r.1 := by
  intro f
  induction f with
  | zero => intro b i r h; rw [itemsM] at h; cases h
  | succ f ih =>
    intro b i r h
    rw [itemsM] at h
    split at h
    · split at h
      · obtain ⟨x, h1, h⟩ := Option.map_eq_some_iff.1 h
        subst h
        exact Its.app ⟨.inl (word_kind _ _ _), trivial⟩ (ih _ _ _ h1)
      · obtain ⟨t, h0, h⟩ := Option.bind_eq_some_iff.1 h
        obtain ⟨x, h1, h⟩ := Option.map_eq_some_iff.1 h
        subst h
        unfold defM at h0
        obtain ⟨k, _, h0⟩ := Option.bind_eq_some_iff.1 h0
        injection h0 with h0
        subst h0
        exact Its.app ⟨.inr (word_kind _ _ _), trivial⟩ (ih _ _ _ h1)
    · injection h with h
      subst h
      exact trivial
end Ps
end Go.Proofs.Ytnefnnoleeeedaa
