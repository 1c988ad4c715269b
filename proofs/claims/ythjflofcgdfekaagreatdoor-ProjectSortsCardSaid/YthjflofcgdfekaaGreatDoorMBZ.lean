import Derived.Deep.CutRange
import Derived.Laws.StructEq
import Derived.Test.YthjflofcgdfekaaGreatDoorMBP
import Derived.ProofKit
import Derived.OpenShut
import Derived.Deep.Slices
import Derived.Deep.Strs
import Derived.SizedLaws
import Derived.Test.YthjflofcgdfekaaGreatDoorMBQ
import Derived.Test.YthjflofcgdfekaaGreatDoorMBN
import Derived.Test.YthjflofcgdfekaaGreatDoorTie
import Derived.Test.YthjflofcgdfekaaGreatDoorCards
import Derived.PinnedBridge
import Derived.Lib.LaidU8
import Derived.Lay
import Derived.SevenTiedAt
import Derived.LaidLaws
import Derived.FnData


namespace Go.Proofs.YthjflofcgdfekaaGreatDoor
namespace Sc
open Go.ChangeShapes Go.WideShapes Go.ChangeAt Go.RowKit
section
variable {H : Type} {enc : TypeId × Value → H} {P : Program}
theorem args_stay (hl : laidOutB P = true) {W W' : World} (hb : Below W.heap.size W W') : ∀ (ts : List TypeId) (vs : List Value) (ds : List (DataW H)) (ps : List MemPlace),
    (∀ t, t ∈ ts → P.readableRec t = true ∧ t < P.types.size) → (∀ x ∈ ps, x.block < W.heap.size) →
    DataW.TrodAll enc P W 0 (fun _ => true) true ts vs ds ps → DataW.TrodAll enc P W' 0 (fun b => decide (b < W.heap.size)) true ts vs ds ps
  | [], vs, ds, ps, _, _, h => by
    obtain ⟨rfl, rfl, rfl⟩ := trodAll_nil h
    exact trodAll_mk0
  | t :: ts, vs, ds, ps, hts, hlt, h => by
    obtain ⟨v, vs', d, ds', p, q, rfl, rfl, rfl, h1, h2⟩ := trodAll_cons h
    have hr := hts t (List.mem_cons_self)
    exact trodAll_cons_mk (Below.trod hl hr.1 hr.2 h1 hb fun x hx => hlt x (List.mem_append_left _ hx))
      (args_stay hl hb ts vs' ds' q (fun u hu => hts u (List.mem_cons_of_mem _ hu)) (fun x hx => hlt x (List.mem_append_right _ hx)) h2)
theorem law_post (hl : laidOutB P = true) {f : Func} {s : ChangeSpec} {tb : TypeId} {W W' : World} {args : Array Value} {ds gs : List (DataW H)} {before : List MemPlace} (hv : s.vars = []) (hf : f.resultTypes = #[tb])
    (htb : P.underlying tb = some .bool) (hts : ∀ t, t ∈ f.params.toList → P.readableRec t = true ∧ t < P.types.size)
    (hW : DataW.Whole enc P f.params.toList s.vars false W args.toList ds gs before)
    (hfn : (s.fn H (ds ++ gs)).results = [.lit (.bool true)] ∧ (s.fn H (ds ++ gs)).args = ds ∧ (s.fn H (ds ++ gs)).vars = []) (hb : Below W.heap.size W W') :
    s.post enc P f false true false false W args (.bool true) W' := by
  have hlt : ∀ p ∈ before, p.block < W.heap.size := fun p hp => hW.lt p hp
  have hW0 := hW
  obtain ⟨p, q, hA, hV, rfl, hz, hn⟩ := hW
  refine ⟨ds, gs, p ++ q, [], p, [], hW0, ?_, ?_, ?_, hb.frame _, fun h => by cases h⟩
  · rw [hfn.1, hf]
    exact trodAll_cons_mk (shut_bool htb _) trodAll_mk0
  · rw [hfn.2.1]
    exact args_stay hl hb _ _ _ _ hts (fun x hx => hlt x (List.mem_append_left _ hx)) hA
  · rw [hfn.2.2, hv]
    exact rfl
end
open Vm
theorem own : ownKnob Tryz.prog.godebug = none := by kernel_rfl
theorem laid : laidOutB Tryz.prog = true := by kernel_rfl
end Sc
end Go.Proofs.YthjflofcgdfekaaGreatDoor
namespace Go.Proofs.YthjflofcgdfekaaGreatDoor
open Go.ChangeShapes Go.WideShapes Go.ChangeAt Go.RowKit Go.Deep
namespace Od
open Vm Sd
theorem spot_of {w : World} {a : Addr} {v : Value} (h : w.cell? a = some v) : a = ⟨a.block, a.off, none⟩ := by
  unfold World.cell? at h
  split at h
  · split at h
    · cases h
    · rename_i hs
      obtain ⟨b, o, s⟩ := a
      cases s with
      | none => rfl
      | some _ => simp at hs
  · cases h
theorem add_flat (b o n : Nat) : (⟨b, o, none⟩ : Addr).add n = ⟨b, o + n, none⟩ := by
  unfold Addr.add
  split
  · rename_i h; rw [h]; rfl
  · rfl
section
variable {H : Type} {enc : TypeId × Value → H} {W : World}
set_option maxRecDepth 100000 in
theorem open_dg {n : Nat} {cs : List Value} {d : DataW H} {p : List MemPlace} (h : DataW.trod enc Tryz.prog W 0 (fun _ => true) true n 75 cs = some (d, p)) : ∃ x : Dg, cs = dgC x := by
  obtain ⟨xs, m, _, _, hlen, hxl, hf⟩ := DataW.trod_struct Tryz.underlying75 h
  rw [show Tryz.prog.cellsOf 75 = 3 by kernel_rfl] at hlen
  match cs, hlen with
  | [c0, c1, c2], _ =>
    match xs, hxl with
    | [x0, x1], _ =>
      have g0 : DataW.trod enc Tryz.prog W 0 (fun _ => true) true m 73 (List.take (Tryz.prog.cellsOf 73) (List.drop 0 [c0, c1, c2])) = some x0 := hf 0 _ rfl
      have g1 : DataW.trod enc Tryz.prog W 0 (fun _ => true) true m 26 (List.take (Tryz.prog.cellsOf 26) (List.drop 2 [c0, c1, c2])) = some x1 := hf 1 _ rfl
      rw [show Tryz.prog.cellsOf 73 = 2 by kernel_rfl] at g0
      rw [show Tryz.prog.cellsOf 26 = 1 by kernel_rfl] at g1
      replace g0 : DataW.trod enc Tryz.prog W 0 (fun _ => true) true m 73 [c0, c1] = some x0 := g0
      obtain ⟨ys, m2, _, _, _, hyl, hf2⟩ := DataW.trod_struct Tryz.underlying73 g0
      match ys, hyl with
      | [y0, y1], _ =>
        have k0 : DataW.trod enc Tryz.prog W 0 (fun _ => true) true m2 9 (List.take (Tryz.prog.cellsOf 9) (List.drop 0 [c0, c1])) = some y0 := hf2 0 _ rfl
        have k1 : DataW.trod enc Tryz.prog W 0 (fun _ => true) true m2 3 (List.take (Tryz.prog.cellsOf 3) (List.drop 1 [c0, c1])) = some y1 := hf2 1 _ rfl
        rw [show Tryz.prog.cellsOf 9 = 1 by kernel_rfl] at k0
        rw [show Tryz.prog.cellsOf 3 = 1 by kernel_rfl] at k1
        obtain ⟨a, ha, _, _⟩ := DataW.trod_string Tryz.underlying9 k0
        obtain ⟨b, hb, _, _⟩ := DataW.trod_int Tryz.underlying3 k1
        obtain ⟨c, hc, _, _⟩ := DataW.trod_int Tryz.underlying26 g1
        simp at ha hb hc
        subst ha hb hc
        exact ⟨(a, b, c), rfl⟩
set_option maxRecDepth 100000 in
theorem open_dgs_any {n : Nat} {cs : List Value} {d : DataW H} {p : List MemPlace} (h : DataW.trod enc Tryz.prog W 0 (fun _ => true) true n 68 cs = some (d, p)) :
    ∃ (A : Option Addr) (cap : Nat) (l : List Dg), cs = [.slice A l.length cap] ∧ RowV W dgC 3 A l := by
  rcases open_slice Tryz.underlying68 h with ⟨rfl, hx⟩ | ⟨a, len, cap, m, q, D, Pl, rfl, hb, hl, hm, hmm, hx, hi⟩
  · exact ⟨none, 0, [], rfl, fun h => by simp at h⟩
  · rw [if_pos rfl] at hmm
    subst hmm
    rw [show Tryz.prog.cellsOf 75 = 3 by kernel_rfl] at hx hi
    have key : ∀ i, i < len → ∃ e : Dg, W.cell? (a.add (i * 3)) = some (.string e.1) ∧ W.cell? ((a.add (i * 3)).add 1) = some (.int .i64 e.2.1) ∧ W.cell? ((a.add (i * 3)).add 2) = some (.int .i64 e.2.2) := fun i hil => by
      obtain ⟨cs', hc, ht'⟩ := hi i (by omega)
      obtain ⟨e, rfl⟩ := open_dg ht'
      obtain ⟨_, _, hat⟩ := World.cells?_some hc
      exact ⟨e, by simpa [Addr.add, dgC] using hat 0 (by omega), by simpa [dgC] using hat 1 (by omega), by simpa [dgC] using hat 2 (by omega)⟩
    let F : Nat → Dg := fun i => if h : i < len then Classical.choose (key i h) else (⟨#[]⟩, 0, 0)
    have hF : ∀ i, i < len → W.cell? (a.add (i * 3)) = some (.string (F i).1) ∧ W.cell? ((a.add (i * 3)).add 1) = some (.int .i64 (F i).2.1) ∧ W.cell? ((a.add (i * 3)).add 2) = some (.int .i64 (F i).2.2) := fun i h => by
      have := Classical.choose_spec (key i h)
      simp only [F, dif_pos h]
      exact this
    have hlen : ((List.range len).map F).length = len := by simp
    refine ⟨some a, m, (List.range len).map F, by rw [hlen], fun hn => ?_⟩
    rw [hlen] at hn
    have hs := spot_of ((hF 0 hn).1)
    have hsp : a = ⟨a.block, a.off, none⟩ := by simpa [Addr.add] using hs
    have hlt := World.block_lt_of_cell? W _ ((hF 0 hn).1)
    refine ⟨a.block, a.off, congrArg some hsp, by simpa [Addr.add] using hlt, fun i x hx j u hj => ?_⟩
    obtain ⟨hil, hxe⟩ := List.getElem?_eq_some_iff.1 hx
    rw [hlen] at hil
    have hg : x = F i := by rw [← hxe]; simp
    subst hg
    obtain ⟨e0, e1, e2⟩ := hF i hil
    rw [hsp] at e0 e1 e2
    rw [add_flat] at e0 e1 e2
    rw [add_flat] at e1 e2
    rcases j with _ | _ | _ | j
    · simp [dgC] at hj; subst hj; exact e0
    · simp [dgC] at hj; subst hj; exact e1
    · simp [dgC] at hj; subst hj; exact e2
    · simp [dgC] at hj
set_option maxRecDepth 100000 in
theorem open_dgsarg {base : Nat} {v : Value} {d : DataW H} {p : List MemPlace} (hv : Value.okWide Tryz.prog W .any base 68 v)
    (h : DataW.Trod enc Tryz.prog W 0 (fun _ => true) true 68 v d p) : ∃ (l : List Dg) (A : Option Addr) (cap : Nat), v = .slice A l.length cap ∧ RowV W dgC 3 A l := by
  obtain ⟨a0, len, cap, rfl⟩ := okWide_slice Tryz.underlying68 hv
  obtain ⟨fuel, hf⟩ := h
  obtain ⟨A, cap', l, hcs, h1⟩ := open_dgs_any hf
  have : Value.slice a0 len cap = .slice A l.length cap' := by simpa [Value.cells] using hcs
  exact ⟨l, A, cap', this, h1⟩
end
set_option maxRecDepth 100000 in
theorem rd68 : Tryz.prog.readableRec 68 = true ∧ 68 < Tryz.prog.types.size := ⟨by kernel_rfl, of_decide_eq_true (by kernel_rfl)⟩
end Od
end Go.Proofs.YthjflofcgdfekaaGreatDoor
namespace Go.Proofs.YthjflofcgdfekaaGreatDoor
open Go.Shelf Go.Lib Go.RowKit
theorem accept_eq : (Rows.laid_unicode_utf8_acceptRanges : DataW Unit) = acceptData := by kernel_rfl
theorem first_eq : Rows.laid_unicode_utf8_first = firstData := Pinned.utf8First_eq
theorem u8x : U8Extra Tryz.prog sh_lays260_ren := ⟨by kernel_rfl, by kernel_rfl, by kernel_rfl, by kernel_rfl, by kernel_rfl, by kernel_rfl, by kernel_rfl⟩
theorem tabs_of {l : List (String × DataW Unit)} {W : World} (hL : laidMet Tryz.prog l W) (h1 : ("unicode/utf8.first", Rows.laid_unicode_utf8_first) ∈ l) (h2 : ("unicode/utf8.acceptRanges", Rows.laid_unicode_utf8_acceptRanges) ∈ l) : Lib.Utf8Tabs 1 2 W :=
  utf8Tabs_of_reads sh_lays260 u8x (first_eq ▸ Lib.laidMet.reads hL h1) (accept_eq ▸ Lib.laidMet.reads hL h2)
theorem err_of {w : World} {n : String} {g t0 : Nat} {ty : String} {d : DataW Unit} {ms : Array (String × TypeId)} (hu : Tryz.prog.underlying t0 = some (.interface ms)) (hg : Tryz.prog.globalNamed n = some g) (ht : (Tryz.prog.globals[g]?).map (·.type) = some t0)
    (h : VarReads Tryz.prog w n (.iface ty d)) : ∃ t p, w.cell? ⟨g, 0, none⟩ = some (.iface t p) := by
  obtain ⟨g', t, cs, fuel, p, h1, h2, h3, h4⟩ := h
  obtain rfl : g = g' := Option.some.inj (hg.symm.trans h1)
  obtain rfl : t0 = t := Option.some.inj (ht.symm.trans h2)
  obtain ⟨_, u, v, hc, _⟩ := iface_of_trod hu h4
  refine ⟨u, v, ?_⟩
  rw [World.var?_cell hg h3 0, ← Array.getElem?_toList, hc]
  rfl
theorem errs_of {l : List (String × DataW Unit)} {W : World} (hL : laidMet Tryz.prog l W) (h1 : ("strconv.ErrSyntax", Rows.laid_strconv_ErrSyntax) ∈ l) (h2 : ("strconv.ErrRange", Rows.laid_strconv_ErrRange) ∈ l) : Errs W :=
  ⟨err_of Tryz.underlying303 (by kernel_rfl) (by kernel_rfl) (Lib.laidMet.reads hL h1), err_of Tryz.underlying303 (by kernel_rfl) (by kernel_rfl) (Lib.laidMet.reads hL h2)⟩
end Go.Proofs.YthjflofcgdfekaaGreatDoor
