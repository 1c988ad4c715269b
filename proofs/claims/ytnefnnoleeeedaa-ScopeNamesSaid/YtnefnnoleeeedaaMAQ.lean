import Derived.BigQuiet
import Derived.Laws.StructEq
import Derived.Deep.LoopGhost
import Derived.Test.YtnefnnoleeeedaaMAP
import Derived.Deep.CutRange
import Derived.Test.YtnefnnoleeeedaaMAO
import Derived.ProofKit
import Derived.OpenShut
import Derived.Deep.Slices
import Derived.Deep.Strs
import Derived.SizedLaws
namespace Go.Proofs.Ytnefnnoleeeedaa
open Go.RowKit Go.Op
namespace Sc
open Vm
open Ps Pg Sb
theorem text_out {l : List Tok} {nm : ByteArray} (h : ∀ j, j < l.length → textAt l j ≠ nm) (h0 : nm ≠ e0) : ∀ j, textAt l j ≠ nm := fun j => by
  by_cases c : j < l.length
  · exact h j c
  · unfold textAt
    rw [List.getElem?_eq_none (by omega)]
    exact fun e => h0 e.symm
theorem str_ne {a b : ByteArray} (h : a ≠ b) : (a.toList == b.toList) = false := by
  rw [beq_eq_false_iff_ne]
  exact fun e => h (bl_iff.1 e)
structure Sn (WM wr : World) (bk : Nat) (st : St) (i p : Nat) : Prop where
  be : Below WM.heap.size WM wr
  ex : ∃ (f : Int → Bool) (n : Nat), SF wr bk n f ∧ n ≤ i * 100000001 + p ∧ ∀ x, f x = true ↔ (∃ j, j < i ∧ x ∈ usesS st j) ∨ x ∈ (usesS st i).take p
structure Tn (w9 wr : World) (gt : Nat) (l : List Tok) (nm : ByteArray) (U : List Int) (p : Nat) : Prop where
  gx : Gx (fun g => g = gt) w9 (fun g => g = gt) wr
  tk : TokAt wr (some ⟨gt, 0, none⟩) (renL (fun n : Nat => decide ((n : Int) ∈ U.take p)) nm l)
  th : ∀ j, wr.frozen? ⟨gt, j, none⟩ = false
theorem renL_none {nm : ByteArray} : ∀ (l : List Tok) (U : List Int), renL (fun n : Nat => decide ((n : Int) ∈ U.take 0)) nm l = l := fun l U => by
  apply List.ext_getElem?
  intro i
  rw [renL_get]
  cases l[i]? with
  | none => rfl
  | some t => simp
theorem Tn.cell {w9 wr : World} {gt : Nat} {l : List Tok} {nm : ByteArray} {U : List Int} {p : Nat} (h : Tn w9 wr gt l nm U p) {n : Nat} (hn : n < l.length) : ∃ u, wr.cell? ⟨gt, n * 4 + 3, none⟩ = some (.string u) := by
  obtain ⟨g, e, _, hc⟩ := h.tk (by rw [renL_len]; omega)
  injection e with e
  injection e with e
  subst e
  exact ⟨_, (hc n (by rw [renL_len]; exact hn)).2.2.2⟩
theorem Tn.put {w9 wr : World} {gt : Nat} {l : List Tok} {nm : ByteArray} {U : List Int} {p : Nat} (h : Tn w9 wr gt l nm U p) {n : Nat} (hn : n < l.length) (hU : U[p]? = some (n : Int)) : Tn w9 (wr.setCell ⟨gt, n * 4 + 3, none⟩ (.string nm)) gt l nm U (p + 1) := by
  obtain ⟨u, hu⟩ := h.cell hn
  refine ⟨⟨h.gx.os, h.gx.tape, h.gx.output, by simpa [World.setCell] using h.gx.size, fun g hg hne => (Below.heap_setCell wr ⟨gt, n * 4 + 3, none⟩ _ g hne).trans (h.gx.block g hg hne), fun g hg => .inl hg⟩, fun hl => ?_, fun j => by rw [World.frozen?_setCell]; exact h.th j⟩
  obtain ⟨g, e, hg, hc⟩ := h.tk (by rw [renL_len] at hl ⊢; exact hl)
  injection e with e
  injection e with e
  subst e
  refine ⟨gt, rfl, by simpa [World.setCell] using hg, fun i hi => ?_⟩
  have hi' : i < (renL (fun n : Nat => decide ((n : Int) ∈ U.take p)) nm l).length := by rw [renL_len] at hi ⊢; exact hi
  obtain ⟨c0, c1, c2, c3⟩ := hc i hi'
  rw [renL_at] at c0 c1 c2 c3 ⊢
  have hmem : ((i : Int) ∈ U.take (p + 1)) ↔ ((i : Int) ∈ U.take p ∨ i = n) := by
    rw [List.take_add_one, hU]
    simp only [Option.toList_some, List.mem_append, List.mem_singleton]
    constructor
    · rintro (h | h)
      · exact .inl h
      · exact .inr (by omega)
    · rintro (h | h)
      · exact .inl h
      · exact .inr (by omega)
  have oth : ∀ o, (i * 4 + o ≠ n * 4 + 3) → (wr.setCell ⟨gt, n * 4 + 3, none⟩ (.string nm)).cell? ⟨gt, i * 4 + o, none⟩ = wr.cell? ⟨gt, i * 4 + o, none⟩ := fun o ho => World.cell?_setCell_other wr _ _ _ (fun e => ho (by injection e with _ e2; omega))
  by_cases c : (i : Int) ∈ U.take p
  · rw [if_pos (by simpa using c)] at c0 c1 c2 c3
    rw [if_pos (by simpa using hmem.2 (.inl c))]
    refine ⟨(oth 0 (by omega)).trans c0, (oth 1 (by omega)).trans c1, (oth 2 (by omega)).trans c2, ?_⟩
    by_cases e : i = n
    · subst e; exact World.cell?_setCell_same wr _ _ hu
    · exact (oth 3 (by omega)).trans c3
  · rw [if_neg (by simpa using c)] at c0 c1 c2 c3
    by_cases e : i = n
    · rw [if_pos (by simpa using hmem.2 (.inr e))]
      refine ⟨(oth 0 (by omega)).trans c0, (oth 1 (by omega)).trans c1, (oth 2 (by omega)).trans c2, ?_⟩
      subst e; exact World.cell?_setCell_same wr _ _ hu
    · rw [if_neg (by simpa using fun h => (hmem.1 h).elim c e)]
      exact ⟨(oth 0 (by omega)).trans c0, (oth 1 (by omega)).trans c1, (oth 2 (by omega)).trans c2, (oth 3 (by omega)).trans c3⟩
theorem ne45w (a k i : Int) (s : ByteArray) (w : World) : (binOp .neq 45 (.agg #[.int .i64 a, .int .i64 k, .string s, .int .i64 i]) (.agg #[.int .i64 a, .int .i64 k, .string s, .int .i64 i])).run Try.prog w = .ok (.bool false) w := by
  have u3 := Try.underlying3
  have a3 := Try.isAgg3
  have z3 := Try.sizeOf3
  have u9 := Try.underlying9
  have a9 := Try.isAgg9
  have z9 := Try.sizeOf9
  have hS : Try.prog.underlying 45 = some (.struct (Try.prog.fieldsOf 45)) := by kernel_rfl
  have hp : Try.prog.stoodInHeld 45 = false := by kernel_rfl
  rw [run_neq_struct, show (10000 : Nat) = 9999 + 1 from rfl, run_equalIn_agg w 9999 45 _ _ hS hp]
  simp only [Program.fieldsOf, Try.underlying45]
  go_simp
theorem ne47w (a t f : Int) (b : Bool) (w : World) : (binOp .neq 47 (.agg #[.int .i64 a, .int .i64 t, .bool b, .int .i64 f]) (.agg #[.int .i64 a, .int .i64 t, .bool b, .int .i64 f])).run Try.prog w = .ok (.bool false) w := by
  have u3 := Try.underlying3
  have a3 := Try.isAgg3
  have z3 := Try.sizeOf3
  have u9 := Try.underlying4
  have a9 := Try.isAgg4
  have z9 := Try.sizeOf4
  have hS : Try.prog.underlying 47 = some (.struct (Try.prog.fieldsOf 47)) := by kernel_rfl
  have hp : Try.prog.stoodInHeld 47 = false := by kernel_rfl
  rw [run_neq_struct, show (10000 : Nat) = 9999 + 1 from rfl, run_equalIn_agg w 9999 47 _ _ hS hp]
  simp only [Program.fieldsOf, Try.underlying47]
  go_simp
structure Cm (WZ wx : World) (bm b2 : Nat) (bs bs' : List Bd) (ms : List Mn) (B1 B2 B3 C1 C2 C3 : Option Addr) (n1 n2 n3 d1 d2 d3 f1 f2 f3 : Nat) : Prop where
  r7 : RowB wx bm 34 #[.slice B1 n1 d1, .slice B2 n2 d2, .slice B3 n3 d3]
  r8 : RowB wx b2 34 #[.slice C1 n1 f1, .slice C2 n2 f2, .slice C3 0 f3]
  p1 : RowAt wx 0 wx.heap.size bdC 4 B1 bs
  p2 : RowAt wx 0 wx.heap.size mnC 4 B2 ms
  q1 : RowAt wx 0 wx.heap.size bdC 4 C1 bs'
  q2 : RowAt wx 0 wx.heap.size mnC 4 C2 ms
  be : Below WZ.heap.size WZ wx
theorem Cm.below {WZ wx wy : World} {bm b2 : Nat} {bs bs' : List Bd} {ms : List Mn} {B1 B2 B3 C1 C2 C3 : Option Addr} {n1 n2 n3 d1 d2 d3 f1 f2 f3 : Nat} (h : Cm WZ wx bm b2 bs bs' ms B1 B2 B3 C1 C2 C3 n1 n2 n3 d1 d2 d3 f1 f2 f3) (hb : Below wx.heap.size wx wy) : Cm WZ wy bm b2 bs bs' ms B1 B2 B3 C1 C2 C3 n1 n2 n3 d1 d2 d3 f1 f2 f3 :=
  ⟨h.r7.below hb h.r7.lt, h.r8.below hb h.r8.lt, row_up h.p1 (Nat.le_refl _) hb, row_up h.p2 (Nat.le_refl _) hb, row_up h.q1 (Nat.le_refl _) hb, row_up h.q2 (Nat.le_refl _) hb, h.be.trans (hb.mono h.be.size)⟩
theorem wf64 {n : Nat} (h : n ≤ 4000) : (Lit.int .i64 (n : Int)).wf = true := by
  have h1 : IntKind.i64.min = -9223372036854775808 := rfl
  have h2 : IntKind.i64.max = 9223372036854775807 := rfl
  simp only [Lit.wf]
  rw [decide_eq_true (by omega), decide_eq_true (by omega)]
  rfl
theorem take_mem_not {U : List Int} (h : U.Nodup) {p : Nat} {x : Int} (hx : U[p]? = some x) : x ∉ U.take p := fun hm => by
  obtain ⟨q, hq⟩ := List.mem_iff_getElem?.1 hm
  rw [List.getElem?_take] at hq
  split at hq
  · rename_i c
    have := nodup_get (f := id) (l := U) (by simpa using h) hq hx rfl
    omega
  · cases hq
set_option maxHeartbeats 40000000 in
set_option maxRecDepth 100000 in
theorem names_walk (s : ByteArray) (hs : (s.size : Int) ≤ 9223372036854775807) (u : Int) (hu : 0 ≤ u ∧ u < 256) (nm : ByteArray) (hnm : nm.size ≤ 9223372036854775807) (w : World) : Calls Try.prog 5 #[.string s, .int .u8 u, .string nm] w fun e w' => e = .returned (.bool true) ∧ Below w.heap.size w w' := by
  have CO := Lib.hid (Pg.rofw_any s hs w)
  have HU := Lib.hid hu
  clear hu
  go_enter Try.func5, Try.ntmps5
  go_wp2_with fail
  refine CO.out.mono ?_
  rintro e w1 ⟨hb, ho⟩
  cases hof : ofM s with
  | bad er a =>
    rw [hof] at ho
    have he : er ≠ 0 := of_bad hof
    have he' : (er != 0) = true := by rw [bne_iff_ne]; exact he
    have ho' : e = .returned (.tuple #[.slice none 0 0, nv0, .int .i64 er, .int .i64 a]) := ho
    subst ho'
    obtain ⟨W2, hW2⟩ : ∃ W2, W2 = w1.alloc (.cells #[.int .i64 0, .int .i64 0, .int .i64 0, .string ⟨#[]⟩, .int .i64 0, .slice none 0 0] 25) := ⟨_, rfl⟩
    have HB2 := Lib.hid (show Below w.heap.size w W2 by rw [hW2]; exact hb.alloc hb.size _)
    have HW2 := Lib.hid hW2
    have CA := Lib.hid (awake_any W2)
    clear hb hof he CO hW2 ho
    go_wp2_with fail
    rw [← HW2.out]
    refine CA.out.mono ?_
    rintro e w3 ⟨rfl, hb3⟩
    have HB3 := Lib.hid (HB2.out.trans (hb3.mono HB2.out.size))
    clear hb3 CA HW2
    go_wp2_with fail
    (first | go_ret | go_ret2)
    exact ⟨by first | rfl | simp, HB3.out⟩
  | ok l h k =>
    rw [hof] at ho
    obtain ⟨AL, cL, A, c, rfl, htok, hthaw, hcap, hk⟩ := ho
    obtain ⟨st, hst⟩ : ∃ st, st = file (tr k) := ⟨_, rfl⟩
    have NOK := Lib.hid (names_ok hof hst)
    obtain ⟨f1, _, _, f4, f5⟩ := of_facts hof
    have hlen4 : l.length ≤ 4000 := (of_read hof).1.le
    obtain ⟨kd, fro, til, wd, at_⟩ := h
    simp only at f1
    subst f1
    obtain ⟨W2, hW2⟩ : ∃ W2, W2 = w1.alloc (.cells #[.int .i64 1, .int .i64 fro, .int .i64 til, .string wd, .int .i64 at_, .slice A k.len c] 25) := ⟨_, rfl⟩
    have B2 : Below w.heap.size w W2 := by rw [hW2]; exact hb.alloc hb.size _
    have b12 : Below w1.heap.size w1 W2 := by rw [hW2]; exact belA w1 _
    have hk2 : TV W2 W2.heap.size (tr k) A c := by
      rw [hW2]
      exact tv_of (fun g _ hg => hg) f5 (hk.below (belA w1 _))
    have r4 : RowB W2 w1.heap.size 25 #[.int .i64 1, .int .i64 fro, .int .i64 til, .string wd, .int .i64 at_, .slice A k.len c] := by rw [hW2]; exact RowB.new w1 25 _
    have hcnt : (tr k).cnt ≤ 16000 := by rw [fc_tr]; omega
    have hof2 : ofS (hi_ ⟨1, fro, til, wd, at_⟩) (tr k) = st := by rw [hst]; rfl
    obtain ⟨n, hn⟩ : ∃ n, n = k.len := ⟨_, rfl⟩
    obtain ⟨nl, hnl⟩ : ∃ nl, nl = l.length := ⟨_, rfl⟩
    have HNL := Lib.hid hnl
    have hnl4 : nl ≤ 4000 := by omega
    have HTV := Lib.hid hk2
    have CP : Hid (∀ W, Below W2.heap.size W2 W → Calls Try.prog 10 #[.agg #[.int .i64 1, .int .i64 fro, .int .i64 til, .string wd, .int .i64 at_, .slice A n c]] W (OfA W st)) := fun W hW => by
      have := of_any (hi_ ⟨1, fro, til, wd, at_⟩) (tr k) A c ((HTV.out.keep (Old.of hW)).up hW.size) (by omega)
      rw [hof2, tr_len, ← hn] at this
      exact this
    rw [← hn] at r4 hW2 ⊢
    rw [← hnl]
    have HB2 := Lib.hid B2
    have HW2 := Lib.hid hW2
    obtain ⟨b4, hb4⟩ : ∃ b4, b4 = w1.heap.size := ⟨_, rfl⟩
    have HB4 := Lib.hid hb4
    rw [← hb4] at r4
    have R4 := Lib.hid r4
    have HTOK := Lib.hid (htok.below b12)
    have HTHAW := Lib.hid (hthaw.keep (w' := W2) (fun g e => by
      obtain ⟨g', e', hl, _⟩ := htok (by have := (of_read hof).1.pos; exact this)
      rw [e] at e'; injection e' with e'; injection e' with e'; subst e'
      exact b12.block g hl))
    have HPOS : Hid (0 < l.length) := (of_read hof).1.pos
    have HCAP := Lib.hid hcap
    have HL4 := Lib.hid hlen4
    have HGB : Hid (∀ g, AL = some ⟨g, 0, none⟩ → g < b4) := fun g e => by
      obtain ⟨g', e', hl, _⟩ := htok (by have := (of_read hof).1.pos; exact this)
      rw [e] at e'; injection e' with e'; injection e' with e'; subst e'
      rw [hb4]; exact hl
    clear hb hk hk2 B2 b12 hW2 r4 hst hof2 hof CO f4 f5 hn hb4 hcnt htok hthaw hcap hlen4 hnl
    have CN := Lib.hid (rname_any nm hnm W2)
    obtain ⟨isn, hisn⟩ : ∃ b, b = rnameL nm.data.toList := ⟨_, rfl⟩
    have HISN := Lib.hid hisn
    rw [← hisn] at CN
    clear hisn
    go_wp2_with fail
    rw [← HW2.out]
    try rw [← HB4.out]
    refine CN.out.mono ?_
    rintro e w3 ⟨rfl, hb3⟩
    have B3 := Lib.hid (hb3)
    clear hb3 CN
    cases isn with
    | false =>
      have CA := Lib.hid (awake_any w3)
      go_wp2_with fail
      refine CA.out.mono ?_
      rintro e w4 ⟨rfl, hb4⟩
      have HB9 := Lib.hid (HB2.out.trans ((B3.out.trans (hb4.mono B3.out.size)).mono HB2.out.size))
      clear hb4 CA
      go_wp2_with fail
      (first | go_ret | go_ret2)
      exact ⟨by first | rfl | simp, HB9.out⟩
    | true =>
      have HNM := Lib.hid HISN.out.symm
      go_wp2_with fail
      go_loopg [45] (nl + 1) (fun kx s wr => ∃ (i : Nat), s = .int .i64 i ∧ nl - i ≤ kx ∧ i ≤ nl ∧ Hid (Below W2.heap.size W2 wr) ∧ Hid (∀ j, j < i → textAt l j ≠ nm))
      case atStart => exact ⟨0, rfl, by omega, by omega, B3.out, fun j hj => by omega⟩
      case round =>
        clear B3
        obtain ⟨i, rfl, hkx, hin, HB, HX⟩ := hrel
        by_cases hi1 : i < nl
        · have hil : (i : Int) < (nl : Int) := by omega
          obtain ⟨gt, eg, hg, hc⟩ := (HTOK.out.below HB.out) HPOS.out
          have hii : i < l.length := by rw [← HNL.out]; exact hi1
          obtain ⟨c0, c1, c2, c3⟩ := hc i hii
          obtain ⟨tk, htk⟩ : ∃ tk, tk = l[i] := ⟨_, rfl⟩
          rw [← htk] at c0 c1 c2 c3
          have htx : textAt l i = tk.text := by unfold textAt; rw [List.getElem?_eq_getElem hii, htk]; rfl
          have HTX := Lib.hid htx
          obtain ⟨W5, hW5⟩ : ∃ W5, W5 = wr.alloc (.cells #[.int .i64 tk.kind, .int .i64 tk.at_, .string tk.lead, .string tk.text] 53) := ⟨_, rfl⟩
          have b5 : Below wr.heap.size wr W5 := by rw [hW5]; exact belA wr _
          have HB5 := Lib.hid (HB.out.trans (b5.mono HB.out.size))
          have R9 : RowB W5 wr.heap.size 53 #[.int .i64 tk.kind, .int .i64 tk.at_, .string tk.lead, .string tk.text] := by rw [hW5]; exact RowB.new wr 53 _
          have y9 := R9.cell
          rw [hW5] at y9
          have HW5 := Lib.hid hW5
          subst eg
          clear hc hg htk htx b5 R9 hW5 hii
          by_cases heq : tk.text = nm
          · have hcmp : (tk.text.toList == nm.toList) = true := by rw [heq]; exact beq_self_eq_true _
            have CA := Lib.hid (awake_any W5)
            have HEQ := Lib.hid heq
            clear heq
            go_wp2_with fail
            rw [← HW5.out]
            refine CA.out.mono ?_
            rintro e w4 ⟨rfl, hb4⟩
            have HB9 := Lib.hid (HB2.out.trans ((HB5.out.trans (hb4.mono HB5.out.size)).mono HB2.out.size))
            clear hb4 CA
            go_wp2_with fail
            (first | go_ret | go_ret2)
            exact ⟨by first | rfl | simp, HB9.out⟩
          · have hcmp := str_ne heq
            have HEQ := Lib.hid heq
            clear heq
            go_wp2_with fail
            try rw [← HW5.out]
            clear y9 c0 c1 c2 c3
            have hw1 : IntKind.i64.wrap ((i : Int) + 1) = ((i + 1 : Nat) : Int) := by rw [IntKind.wrap_i64]; omega
            try rw [hw1]
            go_roundg (nl - (i + 1))
            case measure => omega
            case rel => exact ⟨i + 1, rfl, by omega, by omega, HB5.out, fun j hj => by
              by_cases e : j = i
              · rw [e, HTX.out]; exact HEQ.out
              · exact HX.out j (by omega)⟩
        · have hi2 : decide ((i : Int) < (nl : Int)) = false := decide_eq_false (by omega)
          have HNW : Hid (∀ j, textAt l j ≠ nm) := text_out (fun j hj => HX.out j (by have := HNL.out; omega)) (name_e0 HNM.out)
          have y4 := (R4.out.below HB.out R4.out.lt).cell
          have CC := Lib.hid (CP.out wr HB.out)
          clear HX hin hkx
          go_wp2_with fail
          refine CC.out.mono ?_
          rintro e w5 ⟨B1, d1, B2, d2, B3, d3, l3, rfl, hss, hr1, hr2, hr3, _, _, _, hbd, hb5⟩
          obtain ⟨n1, hn1⟩ : ∃ n1, n1 = st.bs.length := ⟨_, rfl⟩
          obtain ⟨n2, hn2⟩ : ∃ n2, n2 = st.ms.length := ⟨_, rfl⟩
          obtain ⟨n3, hn3⟩ : ∃ n3, n3 = st.bad.length := ⟨_, rfl⟩
          have HN := Lib.hid (show n1 = st.bs.length ∧ n2 = st.ms.length ∧ n3 = st.bad.length from ⟨hn1, hn2, hn3⟩)
          rw [← hn1, ← hn2, ← hn3]
          rw [← hn1, ← hn2, ← hn3] at hbd
          have hn1b : n1 ≤ 100000000 ∧ n2 ≤ 100000000 ∧ n3 ≤ 100000000 := by omega
          have HNB := Lib.hid hn1b
          obtain ⟨WM, hWM⟩ : ∃ WM, WM = w5.alloc (.cells #[.slice B1 n1 d1, .slice B2 n2 d2, .slice B3 n3 d3] 34) := ⟨_, rfl⟩
          obtain ⟨WS, hWS⟩ : ∃ WS, WS = WM.alloc (.map #[] 0) := ⟨_, rfl⟩
          obtain ⟨bm, hbm⟩ : ∃ bm, bm = w5.heap.size := ⟨_, rfl⟩
          have r7 : RowB WM bm 34 #[.slice B1 n1 d1, .slice B2 n2 d2, .slice B3 n3 d3] := by rw [hWM, hbm]; exact RowB.new w5 34 _
          have bm5 : Below w5.heap.size w5 WM := by rw [hWM]; exact belA w5 _
          have hsM : WM.heap.size = bm + 1 := by rw [hWM, hbm]; simp
          obtain ⟨lo, hlo⟩ : ∃ lo, lo = wr.heap.size := ⟨_, rfl⟩
          have H1 := Lib.hid (show RowAt WM lo bm bdC 4 B1 st.bs from by rw [hlo, hbm]; exact row_lt hr1 (Nat.le_refl _) bm5)
          have H2 := Lib.hid (show RowAt WM lo bm mnC 4 B2 st.ms from by rw [hlo, hbm]; exact row_lt hr2 (Nat.le_refl _) bm5)
          have hm1 : Below WM.heap.size WM WS := by rw [hWS]; exact (Below.refl _ _).alloc (Nat.le_refl _) _
          have HSN : Hid (Sn WM WS (bm + 1) st 0 0) := ⟨hm1, fun _ => false, 0, by rw [← hsM, hWS]; exact SF.new WM, by omega, fun x => by
            constructor
            · intro h; cases h
            · rintro (⟨j, hj, _⟩ | hm)
              · omega
              · simp at hm⟩
          have HBM := Lib.hid (show Below W2.heap.size W2 WM from (HB.out.trans (hb5.mono HB.out.size)).trans (bm5.mono (Nat.le_trans HB.out.size hb5.size)))
          have HLO : Hid (b4 < lo ∧ lo ≤ bm ∧ W2.heap.size ≤ lo) := by
            unfold Hid
            have := HB.out.size
            have h5 := hb5.size
            have := R4.out.lt
            omega
          have R7 := Lib.hid r7
          have HSM := Lib.hid hsM
          have HWM := Lib.hid hWM
          have HWS := Lib.hid hWS
          have HBMB := Lib.hid hbm
          have hmm := @run_makeMap Try.prog
          have y7 := r7.cell
          have y7s := (r7.below hm1 r7.lt).cell
          rw [hWM, hbm] at y7
          rw [hWS, hWM, hbm] at y7s
          clear hss hr1 hr2 hr3 hbd hb5 CC hn1 hn2 hn3 bm5 r7 hm1 hWM hWS hbm hlo hsM
          go_wp2_with fail
          clear y4 y7 y7s hi2
          try rw [← HWM.out]
          try rw [← HWS.out]
          try rw [← HBMB.out]
          obtain ⟨bk, hbk⟩ : ∃ bk, bk = bm + 1 := ⟨_, rfl⟩
          have HBK := Lib.hid hbk
          rw [← hbk] at HSN ⊢
          clear hbk
          go_loopg [61] (n1 + 1) (fun kx s wr => ∃ (i : Nat), s = .int .i64 i ∧ n1 - i ≤ kx ∧ i ≤ n1 ∧ Hid (Sn WM wr bk st i 0))
          case atStart => exact ⟨0, rfl, by omega, by omega, HSN.out⟩
          case round =>
            clear HSN
            obtain ⟨i, rfl, hkx, hin, HQ⟩ := hrel
            have y7 := (R7.out.below HQ.out.be R7.out.lt).cell
            by_cases hi1 : i < n1
            · have hil : (i : Int) < (n1 : Int) := by omega
              have hbmw : bm ≤ wr.heap.size := by have := HQ.out.be.size; have := HSM.out; omega
              have CU := Lib.hid (uses_any (A3 := B3) (c1 := d1) (c2 := d2) (n3 := n3) (c3 := d3) (i := i) (row_lt H1.out (by have := HSM.out; omega) HQ.out.be) (row_lt H2.out (by have := HSM.out; omega) HQ.out.be) hbmw (by have := HN.out; omega) (by have := HN.out; have := HNB.out; omega) (by have := HN.out; have := HNB.out; omega))
              rw [← HN.out.1, ← HN.out.2.1] at CU
              clear hbmw
              go_wp2_with fail
              refine CU.out.mono ?_
              rintro e w7 ⟨A5, c5, rfl, _, hr5, hb7⟩
              have HB7 := Lib.hid hb7
              have HR5 := Lib.hid hr5
              have HSN : Hid (Sn WM w7 bk st i 0) := by
                obtain ⟨be, f, nn, q1, q2, q3⟩ := HQ.out
                exact ⟨be.trans (hb7.mono be.size), f, nn, q1.of_block (hb7.block _ q1.lt), q2, q3⟩
              obtain ⟨m5, hm5⟩ : ∃ m5, m5 = (usesS st i).length := ⟨_, rfl⟩
              rw [← hm5]
              have HM5 := Lib.hid hm5
              have hm5b : m5 ≤ 100000001 := by
                rw [hm5, uses_len]
                have h1 := found_len st i st.ms.length
                rw [found_all st i (Nat.le_refl _)] at h1
                have := HN.out
                have := HNB.out
                omega
              have hlow : wr.heap.size > bk := by
                obtain ⟨be, f, nn, q1, q2, q3⟩ := HQ.out
                exact q1.lt
              have HLW := Lib.hid hlow
              obtain ⟨WO, hWO⟩ : ∃ WO, WO = wr := ⟨_, rfl⟩
              rw [← hWO] at HR5 HLW HB7
              clear CU hb7 hr5 hm5 hlow y7 HQ hWO
              go_wp2_with fail
              go_loopg [68] (m5 + 1) (fun kx s wr => ∃ (p : Nat), s = .int .i64 p ∧ m5 - p ≤ kx ∧ p ≤ m5 ∧ Hid (Gx (fun g => g = bk) w7 (fun g => g = bk) wr) ∧ Hid (Sn WM wr bk st i p))
              case atStart => exact ⟨0, rfl, by omega, by omega, Gx.refl _ _, HSN.out⟩
              case round =>
                clear HSN
                obtain ⟨p, rfl, hkp, hpm, HG, HS⟩ := hrel
                by_cases hp1 : p < m5
                · have hpl : (p : Int) < (m5 : Int) := by omega
                  obtain ⟨tt, htt⟩ : ∃ tt, (usesS st i)[p]? = some tt := ⟨(usesS st i)[p]'(by have := HM5.out; omega), List.getElem?_eq_getElem _⟩
                  obtain ⟨g5, e5, hlo5, hg5, hc5⟩ := HR5.out (by have := HM5.out; omega)
                  subst e5
                  have u0 : wr.cell? ⟨g5, p, none⟩ = some (.int .i64 tt) := by
                    have := hc5 p tt htt 0 _ rfl
                    simp only [Nat.mul_one, Nat.add_zero] at this
                    exact (World.cell?_of_block (w := w7) (HG.out.block g5 hg5 (by have := HLW.out; omega))).trans this
                  have hlen1 : i < st.bs.length := by have := HN.out; omega
                  obtain ⟨tn, etn, htl, _⟩ := NOK.out.tok i hlen1 tt (List.mem_of_getElem? htt)
                  have hwf : (Lit.int .i64 tt).wf = true := by
                    have := HL4.out
                    rw [etn]
                    exact wf64 (by have := HNL.out; omega)
                  obtain ⟨be, f, nn, q1, q2, q3⟩ := HS.out
                  have hff : f tt = false := by
                    cases c : f tt with
                    | false => rfl
                    | true =>
                      rcases (q3 tt).1 c with ⟨j, hj, hm⟩ | hm
                      · have := uses_apart NOK.out.dj hlen1 (by omega) (List.mem_of_getElem? htt) hm
                        omega
                      · exact absurd hm (take_mem_not (uses_nodup NOK.out.dj hlen1) htt)
                  have hlook := q1.look hwf
                  rw [hff] at hlook
                  obtain ⟨w8, hput, q4, q5⟩ := q1.put (by simp only [maxLen]; have := HNB.out; omega) hwf
                  obtain ⟨p1, hp1'⟩ : ∃ p1, p1 = p + 1 := ⟨_, rfl⟩
                  have HS8 : Hid (Sn WM w8 bk st i p1) := ⟨⟨q5.os.trans be.os, q5.tape.trans be.tape, q5.output.trans be.output, Nat.le_trans be.size q5.size, fun g hg => (q5.block g (Nat.lt_of_lt_of_le hg be.size) (fun e => by injection e with e; have := HSM.out; have := HBK.out; omega)).trans (be.block g hg)⟩, _, nn + 1, q4, by omega, fun x => by
                    rw [hp1', List.take_add_one, htt]
                    try dsimp only
                    by_cases e : x = tt
                    · rw [if_pos e]; simp [e]
                    · rw [if_neg e, q3]; simp [e]⟩
                  have HG8 : Hid (Gx (fun g => g = bk) w7 (fun g => g = bk) w8) := ⟨q5.os.trans HG.out.os, q5.tape.trans HG.out.tape, q5.output.trans HG.out.output, Nat.le_trans HG.out.size q5.size, fun g hg hn => (q5.block g (Nat.lt_of_lt_of_le hg HG.out.size) (fun e => by injection e with e; exact hn e)).trans (HG.out.block g hg hn), fun g hg => .inl hg⟩
                  have HP1 := Lib.hid hp1'
                  have ek : IntKind.i64.wrap ((p : Int) + 1) = (p1 : Int) := by rw [IntKind.wrap_i64]; omega
                  clear htt hc5 hp1' HS be q1 q2 q3 q4 q5 hff hwf etn htl hlen1 hlo5 hg5 HG
                  go_wp2_with fail
                  clear u0 hlook hput
                  have hp1' := HP1.out
                  go_roundg (m5 - p1)
                  case measure => omega
                  case rel => exact ⟨p1, rfl, by omega, by omega, HG8.out, HS8.out⟩
                · have hd1 : decide ((p : Int) < (m5 : Int)) = false := decide_eq_false (by omega)
                  obtain ⟨i1, hi1'⟩ : ∃ i1, i1 = i + 1 := ⟨_, rfl⟩
                  have HI1 := Lib.hid hi1'
                  have HS9 : Hid (Sn WM wr bk st i1 0) := by
                    obtain ⟨be, f, nn, q1, q2, q3⟩ := HS.out
                    refine ⟨be, f, nn, q1, Nat.le_trans q2 (by rw [hi1', Nat.add_zero, Nat.add_mul, Nat.one_mul]; exact Nat.add_le_add_left (show p ≤ 100000001 by omega) _), fun x => ?_⟩
                    rw [q3, List.take_of_length_le (by have := HM5.out; omega), List.take_zero]
                    constructor
                    · rintro (⟨j, hj, hm⟩ | hm)
                      · exact .inl ⟨j, by omega, hm⟩
                      · exact .inl ⟨i, by omega, hm⟩
                    · rintro (⟨j, hj, hm⟩ | hm)
                      · by_cases e : j = i
                        · exact .inr (e ▸ hm)
                        · exact .inl ⟨j, by omega, hm⟩
                      · cases hm
                  have ek : IntKind.i64.wrap ((i : Int) + 1) = (i1 : Int) := by rw [IntKind.wrap_i64]; omega
                  clear HS HG hkp hpm hi1'
                  go_wp2_with fail
                  have hi1' := HI1.out
                  go_roundg (n1 - i1)
                  case measure => omega
                  case rel => exact ⟨i1, rfl, by omega, by omega, HS9.out⟩
            · have hd1 : decide ((i : Int) < (n1 : Int)) = false := decide_eq_false (by omega)
              have HBE := Lib.hid HQ.out.be
              clear HQ
              have NB9 := Lib.hid (HB2.out.trans ((HBM.out.trans (HBE.out.mono HBM.out.size)).mono HB2.out.size))
              obtain ⟨WL, hWL⟩ : ∃ WL, WL = wr := ⟨_, rfl⟩
              rw [← hWL] at HBE NB9 y7 ⊢
              clear hWL hin hkx
              by_cases c1 : n1 = 0
              · have q : ((n1 : Int) == 0) = true := by rw [beq_iff_eq]; omega
                have CA := Lib.hid (awake_any WL)
                clear c1
                go_wp2_with fail
                refine CA.out.mono ?_
                rintro e w8 ⟨rfl, hb8⟩
                have HB9 := Lib.hid (NB9.out.trans (hb8.mono NB9.out.size))
                clear hb8 CA
                go_wp2_with fail
                (first | go_ret | go_ret2)
                exact ⟨by first | rfl | simp, HB9.out⟩
              have q0 : ((n1 : Int) == 0) = false := by rw [beq_eq_false_iff_ne]; omega
              by_cases c3 : 0 < n3
              · have q : (n3 : Int) > 0 := by omega
                have CA := Lib.hid (awake_any WL)
                clear c1
                go_wp2_with fail
                refine CA.out.mono ?_
                rintro e w8 ⟨rfl, hb8⟩
                have HB9 := Lib.hid (NB9.out.trans (hb8.mono NB9.out.size))
                clear hb8 CA
                go_wp2_with fail
                (first | go_ret | go_ret2)
                exact ⟨by first | rfl | simp, HB9.out⟩
              have HC3 : Hid (n3 = 0) := by unfold Hid; omega
              have qg : decide (0 < n3) = false := decide_eq_false c3
              clear c3
              obtain ⟨wh, hwh⟩ : ∃ wh : Nat, wh = u.toNat % n1 := ⟨_, rfl⟩
              have HWHL : Hid (wh < n1) := by unfold Hid; rw [hwh]; exact Nat.mod_lt _ (by omega)
              have hrem : Int.tmod u (n1 : Int) = (wh : Int) := by
                have := HU.out
                obtain ⟨un, hun⟩ : ∃ un : Nat, u = (un : Int) := ⟨u.toNat, by omega⟩
                rw [hwh, hun, Int.toNat_natCast]
                rfl
              have hwrap : IntKind.i64.wrap u = u := by have := HU.out; rw [IntKind.wrap_i64]; omega
              have hwrap2 : IntKind.i64.wrap (wh : Int) = (wh : Int) := by have := HWHL.out; have := HNB.out; rw [IntKind.wrap_i64]; omega
              have HC1 := Lib.hid c1
              have CU := Lib.hid (uses_any (A3 := B3) (c1 := d1) (c2 := d2) (n3 := n3) (c3 := d3) (i := wh) (row_lt H1.out (by have := HSM.out; omega) HBE.out) (row_lt H2.out (by have := HSM.out; omega) HBE.out) (by have := HBE.out.size; have := HSM.out; omega) (by have := HN.out; have := HWHL.out; omega) (by have := HN.out; have := HNB.out; omega) (by have := HN.out; have := HNB.out; omega))
              rw [← HN.out.1, ← HN.out.2.1] at CU
              clear hwh
              go_wp2_with fail
              refine CU.out.mono ?_
              rintro e w9 ⟨A6, c6, rfl, _, hr6, hb9⟩
              have HR6 := Lib.hid hr6
              obtain ⟨m6, hm6⟩ : ∃ m6, m6 = (usesS st wh).length := ⟨_, rfl⟩
              rw [← hm6]
              have HM6 := Lib.hid hm6
              have hm6b : m6 ≤ 100000001 := by
                rw [hm6, uses_len]
                have h1 := found_len st wh st.ms.length
                rw [found_all st wh (Nat.le_refl _)] at h1
                have := HN.out
                have := HNB.out
                omega
              have HB9 := Lib.hid ((HBM.out.trans (HBE.out.mono HBM.out.size)).trans (hb9.mono (by have := HBM.out.size; have := HBE.out.size; omega)))
              obtain ⟨gt, eAL, hgt, hct⟩ := (HTOK.out.below HB9.out) HPOS.out
              have hgt2 := HTHAW.out gt eAL
              have HGT4 := Lib.hid (HGB.out gt eAL)
              have HGTB : Hid (w.heap.size ≤ gt) := hgt2.1
              have HTN : Hid (Tn w9 w9 gt l nm (usesS st wh) 0) := ⟨Gx.refl _ _, by rw [renL_none, ← eAL]; exact HTOK.out.below HB9.out, fun j => by
                have := hgt2.2 j
                unfold World.frozen? at this ⊢
                rw [HB9.out.block gt (by have := HGT4.out; have := R4.out.lt; omega)]
                exact this⟩
              have HWL9 := Lib.hid (HBE.out.trans (hb9.mono HBE.out.size))
              have HRW := Lib.hid hb9
              subst eAL
              clear CU hr6 hb9 hm6 hgt hct hgt2 y7 q0 qg hrem hwrap hwrap2
              go_wp2_with fail
              go_loopg [100] (m6 + 1) (fun kx s wr => ∃ (p : Nat), s = .int .i64 p ∧ m6 - p ≤ kx ∧ p ≤ m6 ∧ Hid (Tn w9 wr gt l nm (usesS st wh) p))
              case atStart => exact ⟨0, rfl, by omega, by omega, HTN.out⟩
              case round =>
                clear HTN
                obtain ⟨p, rfl, hkp, hpm, HT⟩ := hrel
                by_cases hp1 : p < m6
                · have hpl : (p : Int) < (m6 : Int) := by omega
                  obtain ⟨tt, htt⟩ : ∃ tt, (usesS st wh)[p]? = some tt := ⟨(usesS st wh)[p]'(by have := HM6.out; omega), List.getElem?_eq_getElem _⟩
                  obtain ⟨g6, e6, hlo6, hg6, hc6⟩ := HR6.out (by have := HM6.out; omega)
                  subst e6
                  have hlen1 : wh < st.bs.length := by have := HN.out; have := HWHL.out; omega
                  obtain ⟨tn, etn, htl, _⟩ := NOK.out.tok wh hlen1 tt (List.mem_of_getElem? htt)
                  have u0 : wr.cell? ⟨g6, p, none⟩ = some (.int .i64 tt) := by
                    have := hc6 p tt htt 0 _ rfl
                    simp only [Nat.mul_one, Nat.add_zero] at this
                    exact (World.cell?_of_block (w := w9) (HT.out.gx.block g6 hg6 (by have := HGT4.out; have := HLO.out; have := HWL9.out.size; have := HSM.out; have := HBE.out.size; omega))).trans this
                  subst etn
                  have hTP := HT.out.put htl htt
                  obtain ⟨uu, hcell⟩ := HT.out.cell htl
                  have hfz := HT.out.th (tn * 4 + 3)
                  obtain ⟨p1, hp1'⟩ : ∃ p1, p1 = p + 1 := ⟨_, rfl⟩
                  rw [← hp1'] at hTP
                  have HTP := Lib.hid hTP
                  have HP1 := Lib.hid hp1'
                  have ek : IntKind.i64.wrap ((p : Int) + 1) = (p1 : Int) := by rw [IntKind.wrap_i64]; omega
                  have qa : decide ((tn : Int) < 0) = false := decide_eq_false (by omega)
                  have htl2 : tn < nl := by have := HNL.out; omega
                  have htl3 : (tn : Int) < (nl : Int) := by omega
                  have qb : decide ((nl : Int) ≤ (tn : Int)) = false := decide_eq_false (by omega)
                  have qb2 : decide (nl ≤ tn) = false := decide_eq_false (by omega)
                  clear htt hc6 hp1' HT hlen1 hlo6 hg6 hTP htl
                  go_wp2_with fail
                  clear u0 hcell hfz
                  have hp1' := HP1.out
                  go_roundg (m6 - p1)
                  case measure => omega
                  case rel => exact ⟨p1, rfl, by omega, by omega, HTP.out⟩
                · have hd1 : decide ((p : Int) < (m6 : Int)) = false := decide_eq_false (by omega)
                  have hTE : Tn w9 wr gt l nm (usesS st wh) m6 := by
                    have : p = m6 := by omega
                    rw [← this]; exact HT.out
                  have HTE := Lib.hid hTE
                  clear HT hTE hkp hpm
                  have hTake : (usesS st wh).take m6 = usesS st wh := List.take_of_length_le (by have := HM6.out; omega)
                  have hwhl : wh < st.bs.length := by have := HN.out; have := HWHL.out; omega
                  have hbad0 : st.bad = [] := List.length_eq_zero_iff.1 (by have := HN.out; have := HC3.out; omega)
                  obtain ⟨k', hW', hpm', hbs', hms', hbad', _, hfc', hwo'⟩ := NOK.out.ren wh nm hwhl hbad0 HNW.out HNM.out
                  have htk := HTE.out.tk
                  rw [hTake] at htk
                  obtain ⟨l', hl'⟩ : ∃ l', l' = renL (fun n : Nat => decide ((n : Int) ∈ usesS st wh)) nm l := ⟨_, rfl⟩
                  rw [← hl'] at htk hW' hpm'
                  have hlen' : l'.length = nl := by rw [hl', renL_len, ← HNL.out]
                  have CPR := rparse_any l' (some ⟨gt, 0, none⟩) cL wr htk hW' (by rw [hlen']; have := HCAP.out; have := HNL.out; omega)
                  rw [hpm', hlen'] at CPR
                  have CPR := Lib.hid CPR
                  obtain ⟨st', hst'⟩ : ∃ st', st' = file (tr k') := ⟨_, rfl⟩
                  rw [← hst'] at hbs' hms' hbad'
                  have HBS' := Lib.hid hbs'
                  have HMS' := Lib.hid hms'
                  have HBAD' := Lib.hid hbad'
                  have HST' := Lib.hid hst'
                  have HFC' := Lib.hid hfc'
                  have HWO' := Lib.hid hwo'
                  have HGX := Lib.hid HTE.out.gx
                  clear hTake hwhl hbad0 hW' hpm' hbs' hms' hbad' hfc' hwo' htk hl' hlen' hst' HTE
                  go_wp2_with fail
                  refine CPR.out.mono ?_
                  rintro e w10 ⟨hb10, A7, c7, rfl, hk7⟩
                  obtain ⟨W11, hW11⟩ : ∃ W11, W11 = w10.alloc (.cells #[.int .i64 1, .int .i64 fro, .int .i64 til, .string wd, .int .i64 at_, .slice A7 k'.len c7] 25) := ⟨_, rfl⟩
                  have b11 : Below w10.heap.size w10 W11 := by rw [hW11]; exact belA w10 _
                  have hk8 : TV W11 W11.heap.size (tr k') A7 c7 := by
                    rw [hW11]
                    exact tv_of (fun g _ hg => hg) HWO'.out (hk7.below (belA w10 _))
                  have r11 : RowB W11 w10.heap.size 25 #[.int .i64 1, .int .i64 fro, .int .i64 til, .string wd, .int .i64 at_, .slice A7 k'.len c7] := by rw [hW11]; exact RowB.new w10 25 _
                  have CF := of_any (hi_ ⟨1, fro, til, wd, at_⟩) (tr k') A7 c7 hk8 (by rw [fc_tr]; have := HFC'.out; omega)
                  obtain ⟨nk, hnk⟩ : ∃ nk, nk = k'.len := ⟨_, rfl⟩
                  rw [tr_len, ← hnk, show ofS (hi_ ⟨1, fro, til, wd, at_⟩) (tr k') = st' by rw [HST'.out]; rfl] at CF
                  have CF := Lib.hid (show Calls Try.prog 10 #[.agg #[.int .i64 1, .int .i64 fro, .int .i64 til, .string wd, .int .i64 at_, .slice A7 nk c7]] W11 (OfA W11 st') from CF)
                  rw [← hnk] at r11 hW11 ⊢
                  have HB11 := Lib.hid (hb10.trans (b11.mono hb10.size))
                  have y11 := r11.cell
                  rw [hW11] at y11
                  have HW11 := Lib.hid hW11
                  clear hb10 hk7 hk8 b11 r11 hW11 hnk CPR
                  go_wp2_with fail
                  try rw [← HW11.out]
                  refine CF.out.mono ?_
                  rintro e w12 ⟨C1, f1, C2, f2, C3, f3, l4, rfl, _, hr1, hr2, _, _, _, _, _, hb12⟩
                  have e1 : st'.bs.length = n1 := by rw [HBS'.out, renB_len]; exact HN.out.1.symm
                  have e2 : st'.ms.length = n2 := by rw [HMS'.out]; exact HN.out.2.1.symm
                  have e3 : st'.bad.length = 0 := by rw [HBAD'.out]; rfl
                  rw [e1, e2, e3]
                  obtain ⟨WZ, hWZ⟩ : ∃ WZ, WZ = w12.alloc (.cells #[.slice C1 n1 f1, .slice C2 n2 f2, .slice C3 0 f3] 34) := ⟨_, rfl⟩
                  have bZ : Below w12.heap.size w12 WZ := by rw [hWZ]; exact belA w12 _
                  have bZ0 : Below wr.heap.size wr WZ := (HB11.out.trans (hb12.mono HB11.out.size)).trans (bZ.mono (Nat.le_trans HB11.out.size hb12.size))
                  have hLS := HWL9.out.size
                  have hfr : ∀ g, g < WM.heap.size → g ≠ gt → WZ.heap[g]? = WM.heap[g]? := fun g hg hne => by
                    have h1 := HWL9.out.block g hg
                    have h2 := HGX.out.block g (by omega) hne
                    exact (bZ0.block g (by have := HGX.out.size; omega)).trans (h2.trans h1)
                  have hsz : WM.heap.size ≤ WZ.heap.size := by have := bZ0.size; have := HGX.out.size; omega
                  have HGL : Hid (gt < lo) := by unfold Hid; have := HGT4.out; have := HLO.out; omega
                  have HCM : Hid (Cm WZ WZ bm w12.heap.size st.bs (renB nm wh st.bs) st.ms B1 B2 B3 C1 C2 C3 n1 n2 n3 d1 d2 d3 f1 f2 f3) :=
                    ⟨(hfr bm (by have := HSM.out; omega) (by have := HGL.out; have := HLO.out; omega)).trans R7.out, by rw [hWZ]; exact RowB.new w12 34 _,
                     row_fin H1.out (Nat.zero_le _) (by have := HSM.out; omega) (fun g _ g1 g2 => hfr g (by have := HSM.out; omega) (by have := HGL.out; omega)),
                     row_fin H2.out (Nat.zero_le _) (by have := HSM.out; omega) (fun g _ g1 g2 => hfr g (by have := HSM.out; omega) (by have := HGL.out; omega)),
                     by rw [← HBS'.out]; exact row_fin hr1 (Nat.zero_le _) bZ.size (fun g _ _ g2 => bZ.block g g2),
                     by rw [← HMS'.out]; exact row_fin hr2 (Nat.zero_le _) bZ.size (fun g _ _ g2 => bZ.block g g2), Below.refl _ _⟩
                  have hw9 : Below w.heap.size w w9 := NB9.out.trans (HRW.out.mono NB9.out.size)
                  have HWZ0 : Hid (Below w.heap.size w WZ) := (show Below w.heap.size w wr from ⟨HGX.out.os.trans hw9.os, HGX.out.tape.trans hw9.tape, HGX.out.output.trans hw9.output, Nat.le_trans hw9.size HGX.out.size, fun g hg => (HGX.out.block g (by have := hw9.size; omega) (by have := HGTB.out; omega)).trans (hw9.block g hg)⟩).trans (bZ0.mono (Nat.le_trans hw9.size HGX.out.size))
                  have y7 := HCM.out.r7.cell
                  have y8 := HCM.out.r8.cell
                  have HWZ := Lib.hid hWZ
                  obtain ⟨b2, hb2⟩ : ∃ b2, b2 = w12.heap.size := ⟨_, rfl⟩
                  have HB2Z := Lib.hid hb2
                  rw [hWZ] at y7 y8
                  clear hr1 hr2 hb12 CF e1 e2 e3 hWZ bZ bZ0 hLS hfr hsz hw9 y11 hb2
                  go_wp2_with fail
                  try rw [← HWZ.out]
                  try rw [← HB2Z.out]
                  rw [← HB2Z.out] at HCM
                  clear y7 y8
                  go_loopg [155] (n1 + 1) (fun kx s wr => ∃ (j : Nat), s = .int .i64 j ∧ n1 - j ≤ kx ∧ j ≤ n1 ∧ Hid (Cm WZ wr bm b2 st.bs (renB nm wh st.bs) st.ms B1 B2 B3 C1 C2 C3 n1 n2 n3 d1 d2 d3 f1 f2 f3))
                  case atStart => exact ⟨0, rfl, by omega, by omega, HCM.out⟩
                  case round =>
                    clear HCM
                    obtain ⟨j, rfl, hkj, hjn, HX⟩ := hrel
                    by_cases hj1 : j < n1
                    · have hjl : (j : Int) < (n1 : Int) := by omega
                      have hjj : j < st.bs.length := by have := HN.out; omega
                      obtain ⟨x, hx⟩ : ∃ x, st.bs[j]? = some x := ⟨st.bs[j], List.getElem?_eq_getElem hjj⟩
                      have hx' : (renB nm wh st.bs)[j]? = some (if j = wh then { x with word := nm } else x) := by rw [renB_get, hx]; rfl
                      obtain ⟨g1, eg1, _, hg1, hc1⟩ := HX.out.p1 (by omega)
                      obtain ⟨g2, eg2, _, hg2, hc2⟩ := HX.out.q1 (by rw [renB_len]; omega)
                      subst eg1 eg2
                      have z0 : wr.cell? ⟨g1, j * 4, none⟩ = some (.int .i64 x.at_) := hc1 j x hx 0 _ rfl
                      have z1 : wr.cell? ⟨g1, j * 4 + 1, none⟩ = some (.int .i64 x.kind) := hc1 j x hx 1 _ rfl
                      have z2 : wr.cell? ⟨g1, j * 4 + 2, none⟩ = some (.string x.word) := hc1 j x hx 2 _ rfl
                      have z3 : wr.cell? ⟨g1, j * 4 + 3, none⟩ = some (.int .i64 x.item) := hc1 j x hx 3 _ rfl
                      obtain ⟨W5, hW5⟩ : ∃ W5, W5 = wr.alloc (.cells #[.int .i64 x.at_, .int .i64 x.kind, .string x.word, .int .i64 x.item] 45) := ⟨_, rfl⟩
                      have b5 : Below wr.heap.size wr W5 := by rw [hW5]; exact belA wr _
                      have R9 : RowB W5 wr.heap.size 45 #[.int .i64 x.at_, .int .i64 x.kind, .string x.word, .int .i64 x.item] := by rw [hW5]; exact RowB.new wr 45 _
                      have HX5 := Lib.hid (HX.out.below b5)
                      have hw1 : IntKind.i64.wrap ((j : Int) + 1) = ((j + 1 : Nat) : Int) := by rw [IntKind.wrap_i64]; omega
                      have HW5 := Lib.hid hW5
                      by_cases e : j = wh
                      · rw [if_pos e] at hx'
                        have q : ((j : Int) == (wh : Int)) = true := by rw [beq_iff_eq]; omega
                        obtain ⟨W6, hW6⟩ : ∃ W6, W6 = wr.alloc (.cells #[.int .i64 x.at_, .int .i64 x.kind, .string nm, .int .i64 x.item] 45) := ⟨_, rfl⟩
                        have b6 : Below wr.heap.size wr W6 := by rw [hW6]; exact belA wr _
                        have HX6 := Lib.hid (HX.out.below b6)
                        have R6 : RowB W6 wr.heap.size 45 #[.int .i64 x.at_, .int .i64 x.kind, .string nm, .int .i64 x.item] := by rw [hW6]; exact RowB.new wr 45 _
                        have v0 : W6.cell? ⟨g2, j * 4, none⟩ = some (.int .i64 x.at_) := (b6.cell (p := ⟨g2, j * 4, none⟩) hg2).trans (hc2 j _ hx' 0 _ rfl)
                        have v1 : W6.cell? ⟨g2, j * 4 + 1, none⟩ = some (.int .i64 x.kind) := (b6.cell (p := ⟨g2, j * 4 + 1, none⟩) hg2).trans (hc2 j _ hx' 1 _ rfl)
                        have v2 : W6.cell? ⟨g2, j * 4 + 2, none⟩ = some (.string nm) := (b6.cell (p := ⟨g2, j * 4 + 2, none⟩) hg2).trans (hc2 j _ hx' 2 _ rfl)
                        have v3 : W6.cell? ⟨g2, j * 4 + 3, none⟩ = some (.int .i64 x.item) := (b6.cell (p := ⟨g2, j * 4 + 3, none⟩) hg2).trans (hc2 j _ hx' 3 _ rfl)
                        have y7 := HX.out.r7.cell
                        have y8 := HX6.out.r8.cell
                        have y9 := R6.cell
                        have yt := R9.thaw
                        have yc := R9.cell
                        rw [hW5] at yt yc
                        have HW6 := Lib.hid hW6
                        have hne := ne45w x.at_ x.kind x.item nm
                        clear hc1 hc2 hx hx' hg1 hg2 hjj b5 b6 hW5 hW6 R9 R6 HX e
                        go_wp2_with fail
                        rw [← HW6.out]
                        obtain ⟨bx, hbx⟩ : ∃ bx, bx = wr.heap.size := ⟨_, rfl⟩
                        rw [← hbx] at y9 ⊢
                        clear hbx z0 z1 z2 z3 y7 yt yc q
                        go_quiet (fail)
                        have HX7 := Lib.hid (HX6.out.below (wy := W6.drewN nq) ⟨rfl, rfl, rfl, Nat.le_refl _, fun _ _ => rfl⟩)
                        clear y8 y9 hne v0 v1 v2 v3
                        go_wp2_with fail
                        try rw [hw1]
                        go_roundg (n1 - (j + 1))
                        case measure => omega
                        case rel => exact ⟨j + 1, rfl, by omega, by omega, HX7.out⟩
                      · rw [if_neg e] at hx'
                        have q : ((j : Int) == (wh : Int)) = false := by rw [beq_eq_false_iff_ne]; omega
                        have v0 : W5.cell? ⟨g2, j * 4, none⟩ = some (.int .i64 x.at_) := (b5.cell (p := ⟨g2, j * 4, none⟩) hg2).trans (hc2 j _ hx' 0 _ rfl)
                        have v1 : W5.cell? ⟨g2, j * 4 + 1, none⟩ = some (.int .i64 x.kind) := (b5.cell (p := ⟨g2, j * 4 + 1, none⟩) hg2).trans (hc2 j _ hx' 1 _ rfl)
                        have v2 : W5.cell? ⟨g2, j * 4 + 2, none⟩ = some (.string x.word) := (b5.cell (p := ⟨g2, j * 4 + 2, none⟩) hg2).trans (hc2 j _ hx' 2 _ rfl)
                        have v3 : W5.cell? ⟨g2, j * 4 + 3, none⟩ = some (.int .i64 x.item) := (b5.cell (p := ⟨g2, j * 4 + 3, none⟩) hg2).trans (hc2 j _ hx' 3 _ rfl)
                        have y7 := HX.out.r7.cell
                        have y8 := HX5.out.r8.cell
                        have y9 := R9.cell
                        have hne := ne45w x.at_ x.kind x.item x.word
                        clear hc1 hc2 hx hx' hg1 hg2 hjj b5 hW5 R9 HX
                        go_wp2_with fail
                        rw [← HW5.out]
                        obtain ⟨bx, hbx⟩ : ∃ bx, bx = wr.heap.size := ⟨_, rfl⟩
                        rw [← hbx] at y9 ⊢
                        clear hbx z0 z1 z2 z3 y7 q
                        go_quiet (fail)
                        have HX7 := Lib.hid (HX5.out.below (wy := W5.drewN nq) ⟨rfl, rfl, rfl, Nat.le_refl _, fun _ _ => rfl⟩)
                        clear y8 y9 hne v0 v1 v2 v3
                        go_wp2_with fail
                        try rw [hw1]
                        go_roundg (n1 - (j + 1))
                        case measure => omega
                        case rel => exact ⟨j + 1, rfl, by omega, by omega, HX7.out⟩
                    · have hd1 : decide ((j : Int) < (n1 : Int)) = false := decide_eq_false (by omega)
                      have HCM := Lib.hid HX.out
                      have y7 := HX.out.r7.cell
                      clear HX hkj hjn
                      go_wp2_with fail
                      clear y7 hd1
                      go_loopg [176] (n2 + 1) (fun kx s wr => ∃ (j : Nat), s = .int .i64 j ∧ n2 - j ≤ kx ∧ j ≤ n2 ∧ Hid (Cm WZ wr bm b2 st.bs (renB nm wh st.bs) st.ms B1 B2 B3 C1 C2 C3 n1 n2 n3 d1 d2 d3 f1 f2 f3))
                      case atStart => exact ⟨0, rfl, by omega, by omega, HCM.out⟩
                      case round =>
                        clear HCM
                        obtain ⟨j, rfl, hkj, hjn, HX⟩ := hrel
                        by_cases hj1 : j < n2
                        · have hjl : (j : Int) < (n2 : Int) := by omega
                          have hjj : j < st.ms.length := by have := HN.out; omega
                          obtain ⟨x, hx⟩ : ∃ x, st.ms[j]? = some x := ⟨st.ms[j], List.getElem?_eq_getElem hjj⟩
                          obtain ⟨g1, eg1, _, hg1, hc1⟩ := HX.out.p2 (by omega)
                          obtain ⟨g2, eg2, _, hg2, hc2⟩ := HX.out.q2 (by omega)
                          subst eg1 eg2
                          have z0 : wr.cell? ⟨g1, j * 4, none⟩ = some (.int .i64 x.at_) := hc1 j x hx 0 _ rfl
                          have z1 : wr.cell? ⟨g1, j * 4 + 1, none⟩ = some (.int .i64 x.to) := hc1 j x hx 1 _ rfl
                          have z2 : wr.cell? ⟨g1, j * 4 + 2, none⟩ = some (.bool x.write) := hc1 j x hx 2 _ rfl
                          have z3 : wr.cell? ⟨g1, j * 4 + 3, none⟩ = some (.int .i64 x.far) := hc1 j x hx 3 _ rfl
                          have v0 : wr.cell? ⟨g2, j * 4, none⟩ = some (.int .i64 x.at_) := hc2 j x hx 0 _ rfl
                          have v1 : wr.cell? ⟨g2, j * 4 + 1, none⟩ = some (.int .i64 x.to) := hc2 j x hx 1 _ rfl
                          have v2 : wr.cell? ⟨g2, j * 4 + 2, none⟩ = some (.bool x.write) := hc2 j x hx 2 _ rfl
                          have v3 : wr.cell? ⟨g2, j * 4 + 3, none⟩ = some (.int .i64 x.far) := hc2 j x hx 3 _ rfl
                          have hw1 : IntKind.i64.wrap ((j : Int) + 1) = ((j + 1 : Nat) : Int) := by rw [IntKind.wrap_i64]; omega
                          have y7 := HX.out.r7.cell
                          have y8 := HX.out.r8.cell
                          have hne := ne47w x.at_ x.to x.far x.write
                          clear hc1 hc2 hx hg1 hg2 hjj
                          go_wp2_with fail
                          go_quiet (fail)
                          have HX7 := Lib.hid (HX.out.below (wy := wr.drewN nq) ⟨rfl, rfl, rfl, Nat.le_refl _, fun _ _ => rfl⟩)
                          clear y7 y8 hne v0 v1 v2 v3 z0 z1 z2 z3 HX
                          go_wp2_with fail
                          try rw [hw1]
                          go_roundg (n2 - (j + 1))
                          case measure => omega
                          case rel => exact ⟨j + 1, rfl, by omega, by omega, HX7.out⟩
                        · have hd1 : decide ((j : Int) < (n2 : Int)) = false := decide_eq_false (by omega)
                          have CA := Lib.hid (awake_any wr)
                          have HBZ := Lib.hid (HWZ0.out.trans (HX.out.be.mono HWZ0.out.size))
                          clear HX
                          go_wp2_with fail
                          refine CA.out.mono ?_
                          rintro e w20 ⟨rfl, hb20⟩
                          have HB20 := Lib.hid (HBZ.out.trans (hb20.mono HBZ.out.size))
                          clear hb20 CA HBZ
                          go_wp2_with fail
                          (first | go_ret | go_ret2)
                          exact ⟨by first | rfl | simp, HB20.out⟩
end Sc
end Go.Proofs.Ytnefnnoleeeedaa
namespace Go.Proofs.Ytnefnnoleeeedaa
open Go.RowKit Go.Op
namespace Sc
open Vm
open Sb
def RowsIn (w : World) (lo hi : Nat) (st : St) (A1 A2 A3 : Option Addr) (l3 : List (Int × Int)) : Prop :=
  RowAt w lo hi bdC 4 A1 st.bs ∧ RowAt w lo hi mnC 4 A2 st.ms ∧ RowAt w lo hi baC 2 A3 l3 ∧ StSort st.bad l3 ∧ hi ≤ w.heap.size ∧ st.bs.length + st.ms.length + st.bad.length ≤ 100000000
theorem RowsIn.keep {w w' : World} {lo hi : Nat} {st : St} {A1 A2 A3 : Option Addr} {l3 : List (Int × Int)} (h : RowsIn w lo hi st A1 A2 A3 l3) (hs : w.heap.size ≤ w'.heap.size) (hb : ∀ g, lo ≤ g → g < hi → w'.heap[g]? = w.heap[g]?) : RowsIn w' lo hi st A1 A2 A3 l3 :=
  ⟨h.1.keep hb, h.2.1.keep hb, h.2.2.1.keep hb, h.2.2.2.1, Nat.le_trans h.2.2.2.2.1 hs, h.2.2.2.2.2⟩
theorem RowsIn.below {w w' : World} {lo hi : Nat} {st : St} {A1 A2 A3 : Option Addr} {l3 : List (Int × Int)} (h : RowsIn w lo hi st A1 A2 A3 l3) (hb : Below w.heap.size w w') : RowsIn w' lo hi st A1 A2 A3 l3 :=
  h.keep hb.size fun g _ h2 => hb.block g (Nat.lt_of_lt_of_le h2 h.2.2.2.2.1)
structure Two (w wx : World) (st : St) (h3 h4 lo hi lo' hi' : Nat) (A1 A2 A3 B1 B2 B3 : Option Addr) (c1 c2 c3 d1 d2 d3 : Nat) (l3 m3 : List (Int × Int)) : Prop where
  r3 : RowB wx h3 34 #[.slice A1 st.bs.length c1, .slice A2 st.ms.length c2, .slice A3 st.bad.length c3]
  r4 : RowB wx h4 34 #[.slice B1 st.bs.length d1, .slice B2 st.ms.length d2, .slice B3 st.bad.length d3]
  i3 : RowsIn wx lo hi st A1 A2 A3 l3
  i4 : RowsIn wx lo' hi' st B1 B2 B3 m3
  be : Below w.heap.size w wx
theorem Two.drew {w wx : World} {st : St} {h3 h4 lo hi lo' hi' : Nat} {A1 A2 A3 B1 B2 B3 : Option Addr} {c1 c2 c3 d1 d2 d3 : Nat} {l3 m3 : List (Int × Int)} (h : Two w wx st h3 h4 lo hi lo' hi' A1 A2 A3 B1 B2 B3 c1 c2 c3 d1 d2 d3 l3 m3) : Two w wx.drew st h3 h4 lo hi lo' hi' A1 A2 A3 B1 B2 B3 c1 c2 c3 d1 d2 d3 l3 m3 :=
  ⟨h.r3, h.r4, h.i3, h.i4, Below.drew h.be⟩
end Sc
end Go.Proofs.Ytnefnnoleeeedaa
namespace Go.Proofs.Ytnefnnoleeeedaa
open Go.RowKit Go.Op
namespace Sc
open Vm
open Go.ChangeShapes Go.WideShapes Go.ChangeAt Go.Deep
section
variable {H : Type} {enc : TypeId × Value → H} {P : Program} {W : World}
abbrev hl (h : Hi) (k : Tr) (A : Option Addr) (cap : Nat) : List Value := [.int .i64 h.kind, .int .i64 h.fro, .int .i64 h.til, .string h.word, .int .i64 h.at_, .slice A k.len cap]
end
end Sc
end Go.Proofs.Ytnefnnoleeeedaa
namespace Go.Proofs.Ytnefnnoleeeedaa
namespace Sc
open Go.ChangeShapes Go.WideShapes Go.ChangeAt Go.RowKit
section
variable {H : Type} {enc : TypeId × Value → H} {P : Program}
theorem args_stay (hl : laidOutB P = true) {W W' : World} (hb : Below W.heap.size W W') : ∀ (ts : List TypeId) (vs : List Value) (ds : List (DataW H)) (ps : List MemPlace),
    (∀ t, t ∈ ts → P.readableRec t = true ∧ t < P.types.size) → (∀ x ∈ ps, x.block < W.heap.size) →
    DataW.TrodAll enc P W 0 (fun _ => true) true ts vs ds ps → DataW.TrodAll enc P W' 0 (fun b => decide (b < W.heap.size)) true ts vs ds ps
  | [], vs, ds, ps, _, _, h => by
    obtain ⟨rfl, rfl, rfl⟩ := trodAll_nil h
    exact trodAll_mk0
  | t :: ts, vs, ds, ps, hts, hlt, h => by
    obtain ⟨v, vs', d, ds', p, q, rfl, rfl, rfl, h1, h2⟩ := trodAll_cons h
    have hr := hts t (List.mem_cons_self)
    exact trodAll_cons_mk (Below.trod hl hr.1 hr.2 h1 hb fun x hx => hlt x (List.mem_append_left _ hx))
      (args_stay hl hb ts vs' ds' q (fun u hu => hts u (List.mem_cons_of_mem _ hu)) (fun x hx => hlt x (List.mem_append_right _ hx)) h2)
theorem law_post (hl : laidOutB P = true) {f : Func} {s : ChangeSpec} {tb : TypeId} {W W' : World} {args : Array Value} {ds gs : List (DataW H)} {before : List MemPlace} (hv : s.vars = []) (hf : f.resultTypes = #[tb])
    (htb : P.underlying tb = some .bool) (hts : ∀ t, t ∈ f.params.toList → P.readableRec t = true ∧ t < P.types.size)
    (hW : DataW.Whole enc P f.params.toList s.vars false W args.toList ds gs before)
    (hfn : (s.fn H (ds ++ gs)).results = [.lit (.bool true)] ∧ (s.fn H (ds ++ gs)).args = ds ∧ (s.fn H (ds ++ gs)).vars = []) (hb : Below W.heap.size W W') :
    s.post enc P f false true false false W args (.bool true) W' := by
  have hlt : ∀ p ∈ before, p.block < W.heap.size := fun p hp => hW.lt p hp
  have hW0 := hW
  obtain ⟨p, q, hA, hV, rfl, hz, hn⟩ := hW
  refine ⟨ds, gs, p ++ q, [], p, [], hW0, ?_, ?_, ?_, hb.frame _, fun h => by cases h⟩
  · rw [hfn.1, hf]
    exact trodAll_cons_mk (shut_bool htb _) trodAll_mk0
  · rw [hfn.2.1]
    exact args_stay hl hb _ _ _ _ hts (fun x hx => hlt x (List.mem_append_left _ hx)) hA
  · rw [hfn.2.2, hv]
    exact rfl
end
open Vm
theorem own : ownKnob Try.prog.godebug = none := by kernel_rfl
theorem laid : laidOutB Try.prog = true := by kernel_rfl
theorem rd9 : Try.prog.readableRec 9 = true ∧ 9 < Try.prog.types.size := ⟨by kernel_rfl, of_decide_eq_true (by kernel_rfl)⟩
end Sc
end Go.Proofs.Ytnefnnoleeeedaa
