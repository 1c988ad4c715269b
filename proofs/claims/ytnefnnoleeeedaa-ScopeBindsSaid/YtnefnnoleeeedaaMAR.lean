import Derived.Test.YtnefnnoleeeedaaMAQ
import Derived.Deep.CutRange
import Derived.Laws.StructEq
import Derived.Test.YtnefnnoleeeedaaMAN
import Derived.ProofKit
import Derived.OpenShut
import Derived.Deep.Slices
import Derived.Deep.Strs
import Derived.SizedLaws
namespace Go.Proofs.Ytnefnnoleeeedaa
open Go.RowKit Go.Op
namespace Sc
open Vm
open Ps Pg Sb
theorem of_gdi {s : ByteArray} {l : List Tok} {h : Hd} {k : Fo} (hof : ofM s = .ok l h k) : GdI (tr k) := by
  unfold ofM at hof
  cases hl : lexR s with
  | bad a b => rw [hl] at hof; cases hof
  | good l' =>
    rw [hl] at hof
    dsimp only at hof
    cases hp : parseM l' with
    | bad a b => rw [hp] at hof; cases hof
    | ok h' k' =>
      rw [hp] at hof
      dsimp only at hof
      injection hof with e1 e2 e3
      subst e1 e2 e3
      obtain ⟨f1, f2⟩ := lex_facts hl
      have W := (lexR_wf hl f1).toWf
      obtain ⟨q, hq, hlt⟩ := items_some W
      unfold parseM at hp
      rw [hq] at hp
      dsimp only at hp
      unfold wholeM at hp
      split at hp
      · cases hp
      · rename_i hg
        dsimp only at hg
        split at hp
        · cases hp
        · simp only [Fo.one] at hp
          split at hp
          · cases hp
          · injection hp with h1 h2
            subst h1 h2
            have hq2 : q.2.2 < 0 := by omega
            exact items_gd _ _ _ _ hq
theorem both_same {W : World} {st : St} {R : Rm} (hb : st.bs = R.bs) (hm : st.ms = R.ms) (hbad : st.bad = R.bad) {A1 A2 A3 B1 B2 B3 : Option Addr} {c1 c2 c3 d1 d2 d3 : Nat} {l3 : List (Int × Int)} {l1 h1 l2 h2 l3' h3 k1 i1 k2 i2 k3 i3 : Nat} (hss : StSort st.bad l3)
    (p1 : RowAt W l1 h1 bdC 4 A1 st.bs) (p2 : RowAt W l2 h2 mnC 4 A2 st.ms) (p3 : RowAt W l3' h3 baC 2 A3 l3) (q1 : RowAt W k1 i1 bdC 4 B1 R.bs) (q2 : RowAt W k2 i2 mnC 4 B2 R.ms) (q3 : RowAt W k3 i3 baC 2 B3 (sortR [] R.bad)) (e1 : h1 ≤ W.heap.size) (e2 : h2 ≤ W.heap.size) (e3 : h3 ≤ W.heap.size) (e4 : i1 ≤ W.heap.size) (e5 : i2 ≤ W.heap.size) (e6 : i3 ≤ W.heap.size) (hl : R.bs.length + R.ms.length + R.bad.length ≤ 100000000) :
    Calls Try.prog 9 #[.agg #[.slice A1 st.bs.length c1, .slice A2 st.ms.length c2, .slice A3 st.bad.length c3], .agg #[.slice B1 R.bs.length d1, .slice B2 R.ms.length d2, .slice B3 R.bad.length d3]] W fun e w' => e = .returned (.bool true) ∧ Below W.heap.size W w' := by
  have hl3 : l3 = sortR [] R.bad := hss.uniq (hbad ▸ sortR_st R.bad)
  have hlen : (sortR [] R.bad).length = R.bad.length := (sortR_st R.bad).len
  subst hl3
  rw [hb] at p1 ⊢
  rw [hm] at p2 ⊢
  rw [hbad]
  have R9 := Below.refl W.heap.size W
  have up : ∀ {α : Type} {f : α → List Value} {sz : Nat} {A : Option Addr} {l : List α} {lo hi : Nat}, RowAt W lo hi f sz A l → hi ≤ W.heap.size → RowAt W 0 W.heap.size f sz A l := fun h hh => row_fin h (Nat.zero_le _) hh fun _ _ _ _ => rfl
  have := samer_any R.bs R.ms (sortR [] R.bad) c1 c2 c3 d1 d2 d3 (up p1 e1) (up p2 e2) (up p3 e3) (up q1 e4) (up q2 e5) (up q3 e6) (by rw [hlen]; exact hl)
  rw [hlen] at this
  exact this
theorem row_lt {α : Type} {w w' : World} {f : α → List Value} {sz : Nat} {A : Option Addr} {l : List α} {lo hi : Nat} (h : RowAt w lo hi f sz A l) (hh : hi ≤ w.heap.size) (hb : Below w.heap.size w w') : RowAt w' lo hi f sz A l := h.keep fun g _ k => hb.block g (by omega)
set_option maxHeartbeats 8000000 in
set_option maxRecDepth 100000 in
theorem binds_walk (s : ByteArray) (hs : (s.size : Int) ≤ 9223372036854775807) (w : World) : Calls Try.prog 3 #[.string s] w fun e w' => e = .returned (.bool true) ∧ Below w.heap.size w w' := by
  have CO := Lib.hid (Pg.rof_any s hs w)
  go_enter Try.func3, Try.ntmps3
  go_wp2_with fail
  refine CO.out.mono ?_
  rintro e w1 ⟨hb, ho⟩
  cases hof : ofM s with
  | bad er a =>
    rw [hof] at ho
    have he : er ≠ 0 := of_bad hof
    have he' : (er != 0) = true := by rw [bne_iff_ne]; exact he
    have ho' : e = .returned (.tuple #[.slice none 0 0, nv0, .int .i64 er, .int .i64 a]) := ho
    subst ho'
    obtain ⟨W2, hW2⟩ : ∃ W2, W2 = w1.alloc (.cells #[.int .i64 0, .int .i64 0, .int .i64 0, .string ⟨#[]⟩, .int .i64 0, .slice none 0 0] 25) := ⟨_, rfl⟩
    have HB2 := Lib.hid (show Below w.heap.size w W2 by rw [hW2]; exact hb.alloc hb.size _)
    have HW2 := Lib.hid hW2
    have CA := Lib.hid (awake_any W2)
    clear hb hof he CO hW2 ho
    go_wp2_with fail
    rw [← HW2.out]
    refine CA.out.mono ?_
    rintro e w3 ⟨rfl, hb3⟩
    have HB3 := Lib.hid (HB2.out.trans (hb3.mono HB2.out.size))
    clear hb3 CA HW2
    go_wp2_with fail
    (first | go_ret | go_ret2)
    exact ⟨by first | rfl | simp, HB3.out⟩
  | ok l h k =>
    rw [hof] at ho
    obtain ⟨AL, cL, A, c, rfl, _, _, hk⟩ := ho
    obtain ⟨f1, ⟨t, f2⟩, f3, f4, f5⟩ := of_facts hof
    have f6 := of_gdi hof
    obtain ⟨kd, fro, til, wd, at_⟩ := h
    simp only at f1
    subst f1
    obtain ⟨W2, hW2⟩ : ∃ W2, W2 = w1.alloc (.cells #[.int .i64 1, .int .i64 fro, .int .i64 til, .string wd, .int .i64 at_, .slice A k.len c] 25) := ⟨_, rfl⟩
    have B2 : Below w.heap.size w W2 := by rw [hW2]; exact hb.alloc hb.size _
    have hk2 : TV W2 W2.heap.size (tr k) A c := by
      rw [hW2]
      exact tv_of (fun g _ hg => hg) f5 (hk.below (belA w1 _))
    have r4 : RowB W2 w1.heap.size 25 #[.int .i64 1, .int .i64 fro, .int .i64 til, .string wd, .int .i64 at_, .slice A k.len c] := by rw [hW2]; exact RowB.new w1 25 _
    have hcnt : (tr k).cnt ≤ 16000 := by rw [fc_tr]; omega
    obtain ⟨st, hst⟩ : ∃ st, st = file (tr k) := ⟨_, rfl⟩
    obtain ⟨R, hR⟩ : ∃ R, R = fileR (tr k) := ⟨_, rfl⟩
    have hof2 : ofS (hi_ ⟨1, fro, til, wd, at_⟩) (tr k) = st := by rw [hst]; rfl
    obtain ⟨n, hn⟩ : ∃ n, n = k.len := ⟨_, rfl⟩
    have CP : Hid (∀ W, Below W2.heap.size W2 W → Calls Try.prog 10 #[.agg #[.int .i64 1, .int .i64 fro, .int .i64 til, .string wd, .int .i64 at_, .slice A n c]] W (OfA W st)) := fun W hW => by
      have := of_any (hi_ ⟨1, fro, til, wd, at_⟩) (tr k) A c ((hk2.keep (Old.of hW)).up hW.size) (by omega)
      rw [hof2, tr_len, ← hn] at this
      exact this
    have CR : Hid (∀ W, Below W2.heap.size W2 W → Calls Try.prog 11 #[.agg #[.int .i64 1, .int .i64 fro, .int .i64 til, .string wd, .int .i64 at_, .slice A n c]] W (OfR W R)) := fun W hW => by
      have := ofr_any (hi_ ⟨1, fro, til, wd, at_⟩) (tr k) A c ((hk2.keep (Old.of hW)).up hW.size) f6 (by omega)
      rw [tr_len, ← hn, ← hR] at this
      exact this
    obtain ⟨s1, s2, s3⟩ := file_same (tr k) f6
    rw [← hst, ← hR] at s1 s2 s3
    have S1 := Lib.hid s1
    have S2 := Lib.hid s2
    have S3 := Lib.hid s3
    rw [← hn] at r4 hW2 ⊢
    have HB2 := Lib.hid B2
    have HW2 := Lib.hid hW2
    obtain ⟨b4, hb4⟩ : ∃ b4, b4 = w1.heap.size := ⟨_, rfl⟩
    have HB4 := Lib.hid hb4
    have C4 := Lib.hid r4.cell
    have L4 := Lib.hid r4.lt
    rw [← hb4] at C4 L4
    clear hb hk hk2 B2 hW2 r4 hst hof2 hof CO f2 f3 f4 f5 f6 hn hb4 hR s1 s2 s3 hcnt
    go_wp2_with fail
    rw [← HW2.out]
    try rw [← HB4.out]
    have D1 : Below W2.heap.size W2 W2.drew := Below.drew (Below.refl _ _)
    refine wp_region_G (S := SG (fun w' => Below W2.heap.size W2 w') 99 (fun _ => True) 99 (fun _ => True)) (by kernel_rfl) ⟨D1, fun _ => trivial, fun _ => trivial⟩ (fun hS => ?_)
    refine wpG_ready (rs := [0]) (by kernel_rfl) (by simp) ?_
    refine RG.consG rfl rfl (fun K hK => ?_) RG.nil
    go_simp
    refine (awake_any _).mono ?_
    rintro e x1 ⟨rfl, hx1⟩
    go_wp2_with fail
    have HG1 := Lib.hid (D1.trans (hx1.mono D1.size))
    clear hx1
    refine hK.out _ _ ⟨HG1.out, fun _ => trivial, fun _ => trivial⟩ (fun hS => ?_)
    clear hK K
    try simp only [pL]
    refine wpG_t0 (i := 1) (v := ?v1) rfl (by kernel_rfl) (fun _ _ _ h => h) hS (Or.inl ⟨by rfl, ?hy1⟩) ?rest1
    case hy1 => (intro w' hw; (try dsimp only at hw); have u1 := fun j => (hw.cell (p := ⟨b4, j, none⟩) L4.out).trans (C4.out j); go_simp; try with_reducible rfl)
    replace hS := SG.set (i := 1) (by decide) (by decide) hS
    try simp only [pL]
    refine wpG_t0 (i := 2) (v := ?v2) rfl (by kernel_rfl) (fun _ _ _ h => h) hS (Or.inl ⟨by rfl, ?hy2⟩) ?rest2
    case hy2 => (intro w' hw; (try dsimp only at hw); have u1 := fun j => (hw.cell (p := ⟨b4, j, none⟩) L4.out).trans (C4.out j); go_simp; try with_reducible rfl)
    replace hS := SG.set (i := 2) (by decide) (by decide) hS
    try simp only [pL]
    refine wpG_t0 (i := 4) (v := ?v3) rfl (by kernel_rfl) (fun _ _ _ h => h) hS (Or.inl ⟨by rfl, ?hy3⟩) ?rest3
    case hy3 => (intro w' hw; (try dsimp only at hw); have u1 := fun j => (hw.cell (p := ⟨b4, j, none⟩) L4.out).trans (C4.out j); go_simp; try with_reducible rfl)
    replace hS := SG.set (i := 4) (by decide) (by decide) hS
    try simp only [pL]
    refine wpG_ready (rs := [3]) (by kernel_rfl) (by simp) ?_
    refine RG.consG rfl rfl (fun K hK => ?_) RG.nil
    go_simp
    refine (CP.out x1 HG1.out).mono ?_
    rintro e x2 ⟨A1, c1, A2, c2, A3, c3, l3, rfl, hss, k1, k2, k3, _, _, _, hbd, hx⟩
    go_wp2_with fail
    have HG2 := Lib.hid (HG1.out.trans (hx.mono HG1.out.size))
    have P1 := Lib.hid k1
    have P2 := Lib.hid k2
    have P3 := Lib.hid k3
    have PS := Lib.hid hss
    have PX := Lib.hid hx
    clear hss k1 k2 k3 hbd hx
    refine hK.out _ _ ⟨HG2.out, fun _ => trivial, fun _ => trivial⟩ (fun hS => ?_)
    clear hK K
    try simp only [pL]
    refine wpG_ready (rs := [5]) (by kernel_rfl) (by simp) ?_
    refine RG.consG rfl rfl (fun K hK => ?_) RG.nil
    go_simp
    refine (CR.out x2 HG2.out).mono ?_
    rintro e x3 ⟨B1, d1, B2, d2, B3, d3, rfl, k1, k2, k3, hbd, hx⟩
    go_wp2_with fail
    have HG3 := Lib.hid (HG2.out.trans (hx.mono HG2.out.size))
    have Q1 := Lib.hid k1
    have Q2 := Lib.hid k2
    have Q3 := Lib.hid k3
    have QL := Lib.hid hbd
    have QX := Lib.hid hx
    clear k1 k2 k3 hbd hx
    refine hK.out _ _ ⟨HG3.out, fun _ => trivial, fun _ => trivial⟩ (fun hS => ?_)
    clear hK K
    try simp only [pL]
    have CS := Lib.hid (both_same (W := x3) (c1 := c1) (c2 := c2) (c3 := c3) (d1 := d1) (d2 := d2) (d3 := d3) S1.out S2.out S3.out PS.out (row_lt P1.out (Nat.le_refl _) QX.out) (row_lt P2.out (Nat.le_refl _) QX.out) (row_lt P3.out (Nat.le_refl _) QX.out) Q1.out Q2.out Q3.out QX.out.size QX.out.size QX.out.size (Nat.le_refl _) (Nat.le_refl _) (Nat.le_refl _) QL.out)
    refine wpG_ready (rs := [6]) (by kernel_rfl) (by simp) ?_
    refine RG.consG rfl rfl (fun K hK => ?_) RG.nil
    go_simp
    refine CS.out.mono ?_
    rintro e x9 ⟨rfl, hx9⟩
    go_wp2_with fail
    have HG9 := Lib.hid (HG3.out.trans (hx9.mono HG3.out.size))
    clear hx9 CS
    refine hK.out _ _ ⟨HG9.out, fun _ => trivial, fun _ => trivial⟩ (fun hS => ?_)
    clear hK K
    try simp only [pL]
    refine wpG_t0 (i := 7) (v := ?v4) rfl (by kernel_rfl) (fun _ _ _ h => h) hS (Or.inl ⟨by rfl, ?hy4⟩) ?rest4
    case hy4 => (intro w' hw; (try dsimp only at hw); have u1 := fun j => (hw.cell (p := ⟨b4, j, none⟩) L4.out).trans (C4.out j); go_simp; try with_reducible rfl)
    replace hS := SG.set (i := 7) (by decide) (by decide) hS
    try simp only [pL]
    refine wpG_t0 (i := 8) (v := ?v5) rfl (by kernel_rfl) (fun _ _ _ h => h) hS (Or.inl ⟨by rfl, ?hy5⟩) ?rest5
    case hy5 => (intro w' hw; (try dsimp only at hw); have u1 := fun j => (hw.cell (p := ⟨b4, j, none⟩) L4.out).trans (C4.out j); go_simp; try with_reducible rfl)
    replace hS := SG.set (i := 8) (by decide) (by decide) hS
    try simp only [pL]
    refine wpG_done (by kernel_rfl) ?_ _
    go_wp2_with fail
    (first | go_ret | go_ret2)
    exact ⟨by first | rfl | simp, HB2.out.trans (HG9.out.mono HB2.out.size)⟩
end Sc
end Go.Proofs.Ytnefnnoleeeedaa
namespace Go.Proofs.Ytnefnnoleeeedaa
open Go.RowKit Go.Op
namespace Sc
open Vm
open Sb
def RowsIn (w : World) (lo hi : Nat) (st : St) (A1 A2 A3 : Option Addr) (l3 : List (Int × Int)) : Prop :=
  RowAt w lo hi bdC 4 A1 st.bs ∧ RowAt w lo hi mnC 4 A2 st.ms ∧ RowAt w lo hi baC 2 A3 l3 ∧ StSort st.bad l3 ∧ hi ≤ w.heap.size ∧ st.bs.length + st.ms.length + st.bad.length ≤ 100000000
theorem RowsIn.keep {w w' : World} {lo hi : Nat} {st : St} {A1 A2 A3 : Option Addr} {l3 : List (Int × Int)} (h : RowsIn w lo hi st A1 A2 A3 l3) (hs : w.heap.size ≤ w'.heap.size) (hb : ∀ g, lo ≤ g → g < hi → w'.heap[g]? = w.heap[g]?) : RowsIn w' lo hi st A1 A2 A3 l3 :=
  ⟨h.1.keep hb, h.2.1.keep hb, h.2.2.1.keep hb, h.2.2.2.1, Nat.le_trans h.2.2.2.2.1 hs, h.2.2.2.2.2⟩
theorem RowsIn.below {w w' : World} {lo hi : Nat} {st : St} {A1 A2 A3 : Option Addr} {l3 : List (Int × Int)} (h : RowsIn w lo hi st A1 A2 A3 l3) (hb : Below w.heap.size w w') : RowsIn w' lo hi st A1 A2 A3 l3 :=
  h.keep hb.size fun g _ h2 => hb.block g (Nat.lt_of_lt_of_le h2 h.2.2.2.2.1)
structure Two (w wx : World) (st : St) (h3 h4 lo hi lo' hi' : Nat) (A1 A2 A3 B1 B2 B3 : Option Addr) (c1 c2 c3 d1 d2 d3 : Nat) (l3 m3 : List (Int × Int)) : Prop where
  r3 : RowB wx h3 34 #[.slice A1 st.bs.length c1, .slice A2 st.ms.length c2, .slice A3 st.bad.length c3]
  r4 : RowB wx h4 34 #[.slice B1 st.bs.length d1, .slice B2 st.ms.length d2, .slice B3 st.bad.length d3]
  i3 : RowsIn wx lo hi st A1 A2 A3 l3
  i4 : RowsIn wx lo' hi' st B1 B2 B3 m3
  be : Below w.heap.size w wx
theorem Two.drew {w wx : World} {st : St} {h3 h4 lo hi lo' hi' : Nat} {A1 A2 A3 B1 B2 B3 : Option Addr} {c1 c2 c3 d1 d2 d3 : Nat} {l3 m3 : List (Int × Int)} (h : Two w wx st h3 h4 lo hi lo' hi' A1 A2 A3 B1 B2 B3 c1 c2 c3 d1 d2 d3 l3 m3) : Two w wx.drew st h3 h4 lo hi lo' hi' A1 A2 A3 B1 B2 B3 c1 c2 c3 d1 d2 d3 l3 m3 :=
  ⟨h.r3, h.r4, h.i3, h.i4, Below.drew h.be⟩
end Sc
end Go.Proofs.Ytnefnnoleeeedaa
namespace Go.Proofs.Ytnefnnoleeeedaa
open Go.RowKit Go.Op
namespace Sc
open Vm
open Go.ChangeShapes Go.WideShapes Go.ChangeAt Go.Deep
section
variable {H : Type} {enc : TypeId × Value → H} {P : Program} {W : World}
abbrev hl (h : Hi) (k : Tr) (A : Option Addr) (cap : Nat) : List Value := [.int .i64 h.kind, .int .i64 h.fro, .int .i64 h.til, .string h.word, .int .i64 h.at_, .slice A k.len cap]
end
end Sc
end Go.Proofs.Ytnefnnoleeeedaa
namespace Go.Proofs.Ytnefnnoleeeedaa
namespace Sc
open Go.ChangeShapes Go.WideShapes Go.ChangeAt Go.RowKit
section
variable {H : Type} {enc : TypeId × Value → H} {P : Program}
theorem args_stay (hl : laidOutB P = true) {W W' : World} (hb : Below W.heap.size W W') : ∀ (ts : List TypeId) (vs : List Value) (ds : List (DataW H)) (ps : List MemPlace),
    (∀ t, t ∈ ts → P.readableRec t = true ∧ t < P.types.size) → (∀ x ∈ ps, x.block < W.heap.size) →
    DataW.TrodAll enc P W 0 (fun _ => true) true ts vs ds ps → DataW.TrodAll enc P W' 0 (fun b => decide (b < W.heap.size)) true ts vs ds ps
  | [], vs, ds, ps, _, _, h => by
    obtain ⟨rfl, rfl, rfl⟩ := trodAll_nil h
    exact trodAll_mk0
  | t :: ts, vs, ds, ps, hts, hlt, h => by
    obtain ⟨v, vs', d, ds', p, q, rfl, rfl, rfl, h1, h2⟩ := trodAll_cons h
    have hr := hts t (List.mem_cons_self)
    exact trodAll_cons_mk (Below.trod hl hr.1 hr.2 h1 hb fun x hx => hlt x (List.mem_append_left _ hx))
      (args_stay hl hb ts vs' ds' q (fun u hu => hts u (List.mem_cons_of_mem _ hu)) (fun x hx => hlt x (List.mem_append_right _ hx)) h2)
theorem law_post (hl : laidOutB P = true) {f : Func} {s : ChangeSpec} {tb : TypeId} {W W' : World} {args : Array Value} {ds gs : List (DataW H)} {before : List MemPlace} (hv : s.vars = []) (hf : f.resultTypes = #[tb])
    (htb : P.underlying tb = some .bool) (hts : ∀ t, t ∈ f.params.toList → P.readableRec t = true ∧ t < P.types.size)
    (hW : DataW.Whole enc P f.params.toList s.vars false W args.toList ds gs before)
    (hfn : (s.fn H (ds ++ gs)).results = [.lit (.bool true)] ∧ (s.fn H (ds ++ gs)).args = ds ∧ (s.fn H (ds ++ gs)).vars = []) (hb : Below W.heap.size W W') :
    s.post enc P f false true false false W args (.bool true) W' := by
  have hlt : ∀ p ∈ before, p.block < W.heap.size := fun p hp => hW.lt p hp
  have hW0 := hW
  obtain ⟨p, q, hA, hV, rfl, hz, hn⟩ := hW
  refine ⟨ds, gs, p ++ q, [], p, [], hW0, ?_, ?_, ?_, hb.frame _, fun h => by cases h⟩
  · rw [hfn.1, hf]
    exact trodAll_cons_mk (shut_bool htb _) trodAll_mk0
  · rw [hfn.2.1]
    exact args_stay hl hb _ _ _ _ hts (fun x hx => hlt x (List.mem_append_left _ hx)) hA
  · rw [hfn.2.2, hv]
    exact rfl
end
open Vm
theorem own : ownKnob Try.prog.godebug = none := by kernel_rfl
theorem laid : laidOutB Try.prog = true := by kernel_rfl
theorem rd9 : Try.prog.readableRec 9 = true ∧ 9 < Try.prog.types.size := ⟨by kernel_rfl, of_decide_eq_true (by kernel_rfl)⟩
end Sc
end Go.Proofs.Ytnefnnoleeeedaa
