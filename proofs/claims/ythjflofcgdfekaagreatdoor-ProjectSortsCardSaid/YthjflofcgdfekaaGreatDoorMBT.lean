import Derived.Test.YthjflofcgdfekaaGreatDoorMBR
import Derived.Test.YthjflofcgdfekaaGreatDoorMBN
import Derived.Test.YthjflofcgdfekaaGreatDoorMBO
import Derived.Test.YthjflofcgdfekaaGreatDoorMBS
namespace Go.Proofs.YthjflofcgdfekaaGreatDoor
open Go.RowKit Go.Op
namespace Pj
open Sc Ps Pg Vm
open Sb (RowAt)
def Ap (G : Nat) (w w' : World) : Prop := w.heap.size ≤ w'.heap.size ∧ ∀ g, g < w.heap.size → g ≠ G → w'.heap[g]? = w.heap[g]?
theorem Ap.cell {G : Nat} {w w' : World} (h : Ap G w w') {g o : Nat} (hl : g < w.heap.size) (hn : g ≠ G) : w'.cell? ⟨g, o, none⟩ = w.cell? ⟨g, o, none⟩ := World.cell?_of_block (h.2 g hl hn)
theorem Ap.of {G : Nat} {w w' : World} (h : Below w.heap.size w w') : Ap G w w' := ⟨h.size, fun g hl _ => h.block g hl⟩
theorem Ap.put {G : Nat} {w w' : World} (h : Ap G w w') (k : Nat) (a : Value) : Ap G w (w'.setCell ⟨G, k, none⟩ a) :=
  ⟨by simpa [World.setCell] using h.1, fun g hl hn => (Below.heap_setCell _ _ _ g hn).trans (h.2 g hl hn)⟩
def put14 (w : World) (g : Nat) (a0 a1 a2 a3 a4 a5 a6 a7 a8 a9 a10 a11 a12 a13 : Value) : World := ((((((((((((((w.setCell ⟨g, 0, none⟩ a0).setCell ⟨g, 1, none⟩ a1).setCell ⟨g, 2, none⟩ a2).setCell ⟨g, 3, none⟩ a3).setCell ⟨g, 4, none⟩ a4).setCell ⟨g, 5, none⟩ a5).setCell ⟨g, 6, none⟩ a6).setCell ⟨g, 7, none⟩ a7).setCell ⟨g, 8, none⟩ a8).setCell ⟨g, 9, none⟩ a9).setCell ⟨g, 10, none⟩ a10).setCell ⟨g, 11, none⟩ a11).setCell ⟨g, 12, none⟩ a12).setCell ⟨g, 13, none⟩ a13)
theorem put14_block (w : World) (g : Nat) (a0 a1 a2 a3 a4 a5 a6 a7 a8 a9 a10 a11 a12 a13 : Value) {k : Nat} (hk : k ≠ g) : (put14 w g a0 a1 a2 a3 a4 a5 a6 a7 a8 a9 a10 a11 a12 a13).heap[k]? = w.heap[k]? := by
  unfold put14
  repeat rw [Below.heap_setCell _ _ _ k hk]
theorem put14_size (w : World) (g : Nat) (a0 a1 a2 a3 a4 a5 a6 a7 a8 a9 a10 a11 a12 a13 : Value) : (put14 w g a0 a1 a2 a3 a4 a5 a6 a7 a8 a9 a10 a11 a12 a13).heap.size = w.heap.size := by simp [put14, World.setCell]
theorem put14_below {b : Nat} {v w : World} {g : Nat} (h : Below b v w) (hg : b ≤ g) (a0 a1 a2 a3 a4 a5 a6 a7 a8 a9 a10 a11 a12 a13 : Value) : Below b v (put14 w g a0 a1 a2 a3 a4 a5 a6 a7 a8 a9 a10 a11 a12 a13) := by
  unfold put14
  repeat refine Below.setCell ?_ (by exact hg) _
  exact h
theorem put14_row {w : World} {g : Nat} (h : RowB w g 52 #[.string ⟨#[]⟩, .string ⟨#[]⟩, .slice none 0 0, .int .i64 0, .int .i64 0, .int .i64 0, .string ⟨#[]⟩, .int .i64 0, .slice none 0 0, .slice none 0 0, .slice none 0 0, .slice none 0 0, .int .i64 0, .int .i64 0]) (a0 a1 a2 a3 a4 a5 a6 a7 a8 a9 a10 a11 a12 a13 : Value) : RowB (put14 w g a0 a1 a2 a3 a4 a5 a6 a7 a8 a9 a10 a11 a12 a13) g 52 #[a0, a1, a2, a3, a4, a5, a6, a7, a8, a9, a10, a11, a12, a13] := by
  have := ((((((((((((((h.put 0 a0).put 1 a1).put 2 a2).put 3 a3).put 4 a4).put 5 a5).put 6 a6).put 7 a7).put 8 a8).put 9 a9).put 10 a10).put 11 a11).put 12 a12).put 13 a13)
  simpa only [List.setIfInBounds_toArray, List.set_cons_zero, List.set_cons_succ, put14] using this
theorem ugood_of {w2 x2 W' : World} {G lo : Nat} {u : Un} {l : List Tok} {h : Hd} {k : Fo} (hP : ∀ g, g ≠ G → W'.heap[g]? = x2.heap[g]?) (hs : W'.heap.size = x2.heap.size) (hd : hi_ h = ⟨u.kd, u.fr, u.tl, u.wd, u.at_⟩) (zb : u.bad = 0 ∧ u.ab = 0) (ln : u.ln = l.length) (lc : l.length ≤ u.cp)
    (kl : u.kl = k.len) (n1 : u.n1 = (stF k).bs.length) (n2 : u.n2 = (stF k).ms.length) (n3 : u.n3 = (stF k).bad.length) (sum : (stF k).bs.length + (stF k).ms.length + (stF k).bad.length ≤ 100000000)
    (htok : TokAt w2 u.A l) (hG : w2.cell? ⟨G, 0, none⟩ = some (.string eb)) (hk : KV w2 (fun g => lo ≤ g) k u.B u.kc) (hb : Below w2.heap.size w2 x2) (hlo : G < lo)
    (k1 : RowAt x2 lo x2.heap.size bdC 4 u.A1 (stF k).bs) (k2 : RowAt x2 lo x2.heap.size mnC 4 u.A2 (stF k).ms) (k3 : RowAt x2 lo x2.heap.size baC 2 u.A3 (sortR [] (stF k).bad)) : UGood lo W' u l h k := by
  have rowf : ∀ {α : Type} {f : α → List Value} {sz : Nat} {B : Option Addr} {q : List α}, RowAt x2 lo x2.heap.size f sz B q → RowAt W' lo W'.heap.size f sz B q := fun h =>
    row_fin h (Nat.le_refl _) (by rw [hs]; exact Nat.le_refl _) fun g _ hg _ => hP g (by omega)
  refine ⟨hd, zb, ln, lc, ?_, kl, ?_, n1, n2, n3, rowf k1, rowf k2, rowf k3, sum⟩
  · intro h0
    obtain ⟨g, eg, hg, hc⟩ := htok h0
    have hne : g ≠ G := fun e => by
      obtain ⟨c0, _⟩ := hc 0 h0
      rw [e, Nat.zero_mul, hG] at c0
      simp at c0
    refine ⟨g, eg, by rw [hs]; have := hb.size; omega, fun i hi => ?_⟩
    obtain ⟨c0, c1, c2, c3⟩ := hc i hi
    have hcell : ∀ o, W'.cell? ⟨g, o, none⟩ = w2.cell? ⟨g, o, none⟩ := fun o => (World.cell?_of_block (w := x2) (hP g hne)).trans (hb.cell (p := ⟨g, o, none⟩) hg)
    exact ⟨(hcell _).trans c0, (hcell _).trans c1, (hcell _).trans c2, (hcell _).trans c3⟩
  · exact hk.keep (by rw [hs]; exact hb.size) fun g hg hl => ⟨(hP g (by omega)).trans (hb.block g hl), hg⟩
set_option maxHeartbeats 8000000 in
set_option maxRecDepth 100000 in
theorem read_any (n x : ByteArray) (hx : (x.size : Int) ≤ 9223372036854775807) (w : World) (hT : Tabs w) (hE : Errs w) :
    Calls Tryz.prog 28 #[.agg #[.string n, .string x]] w fun e w' => ∃ u, e = .returned (.agg (unC u).toArray) ∧ nx u = (n, x) ∧ UOk w.heap.size w' u ∧ Below w.heap.size w w' := by
  obtain ⟨W1, hW1⟩ : ∃ W1, W1 = (w.alloc (.cells #[.string n, .string x] 56)).alloc (.cells #[.string ⟨#[]⟩, .string ⟨#[]⟩, .slice none 0 0, .int .i64 0, .int .i64 0, .int .i64 0, .string ⟨#[]⟩, .int .i64 0, .slice none 0 0, .slice none 0 0, .slice none 0 0, .slice none 0 0, .int .i64 0, .int .i64 0] 52) := ⟨_, rfl⟩
  have s1 : W1.heap.size = w.heap.size + 2 := by rw [hW1]; simp
  have r1 : RowB W1 w.heap.size 56 #[.string n, .string x] := by rw [hW1]; exact (RowB.new _ _ _).alloc _
  have r2 : RowB W1 (w.heap.size + 1) 52 #[.string ⟨#[]⟩, .string ⟨#[]⟩, .slice none 0 0, .int .i64 0, .int .i64 0, .int .i64 0, .string ⟨#[]⟩, .int .i64 0, .slice none 0 0, .slice none 0 0, .slice none 0 0, .slice none 0 0, .int .i64 0, .int .i64 0] := by
    have := RowB.new (w.alloc (.cells #[.string n, .string x] 56)) 52 #[.string ⟨#[]⟩, .string ⟨#[]⟩, .slice none 0 0, .int .i64 0, .int .i64 0, .int .i64 0, .string ⟨#[]⟩, .int .i64 0, .slice none 0 0, .slice none 0 0, .slice none 0 0, .slice none 0 0, .int .i64 0, .int .i64 0]
    rw [hW1]
    simpa using this
  have b1 : Below w.heap.size w W1 := by rw [hW1]; exact (belA w _).alloc (by simp) _
  have CO := Lib.hid (of_any x hx W1 (Tabs.step hT b1) (hE.below b1))
  have HW1 := Lib.hid hW1
  have R1 := Lib.hid r1
  have R2 := Lib.hid r2
  have B1 := Lib.hid b1
  have S1 := Lib.hid s1
  clear hT hE r1 r2 b1 s1 hW1 hx
  go_enter Tryz.func28, Tryz.ntmps28
  go_wp2_with fail
  rw [← HW1.out]
  refine CO.out.mono ?_
  rintro e w2 ⟨hb, ho⟩
  have B2 := Lib.hid (B1.out.trans (hb.mono B1.out.size))
  have r1 := R1.out.below hb R1.out.lt
  have r2 := R2.out.below hb R2.out.lt
  have HB := Lib.hid hb
  have q1 : w.heap.size < w2.heap.size := r1.lt
  have q2 : w.heap.size + 1 < w2.heap.size := r2.lt
  cases hof : ofM x with
  | bad er a =>
    rw [hof] at ho
    have he : er ≠ 0 := of_bad hof
    have he' : (er != 0) = true := by rw [bne_iff_ne]; exact he
    have ho' : e = .returned (.tuple #[.slice none 0 0, nv0, .int .i64 er, .int .i64 a]) := ho
    subst ho'
    have P2 := Lib.hid r2
    have BB := B2
    have HOF := Lib.hid hof
    have y1 := r1.cell
    have y2 := r2.cell
    have y2t := r2.thaw
    clear hb ho he hof CO HB r1 r2
    go_wp2_with fail
    have y9 := ((put14_row P2.out (.string n) (.string x) (.slice none 0 0) (.int .i64 0) (.int .i64 0) (.int .i64 0) (.string ⟨#[]⟩) (.int .i64 0) (.slice none 0 0) (.slice none 0 0) (.slice none 0 0) (.slice none 0 0) (.int .i64 er) (.int .i64 a)).alloc (.cells #[.int .i64 0, .int .i64 0, .int .i64 0, .string ⟨#[]⟩, .int .i64 0, .slice none 0 0] 38)).cell
    have hbb := (put14_below BB.out (show w.heap.size ≤ w.heap.size + 1 by omega) (.string n) (.string x) (.slice none 0 0) (.int .i64 0) (.int .i64 0) (.int .i64 0) (.string ⟨#[]⟩) (.int .i64 0) (.slice none 0 0) (.slice none 0 0) (.slice none 0 0) (.slice none 0 0) (.int .i64 er) (.int .i64 a)).alloc (by rw [put14_size]; omega) (.cells #[.int .i64 0, .int .i64 0, .int .i64 0, .string ⟨#[]⟩, .int .i64 0, .slice none 0 0] 38)
    generalize hWF : (put14 w2 (w.heap.size + 1) (.string n) (.string x) (.slice none 0 0) (.int .i64 0) (.int .i64 0) (.int .i64 0) (.string ⟨#[]⟩) (.int .i64 0) (.slice none 0 0) (.slice none 0 0) (.slice none 0 0) (.slice none 0 0) (.int .i64 er) (.int .i64 a)).alloc (.cells #[.int .i64 0, .int .i64 0, .int .i64 0, .string ⟨#[]⟩, .int .i64 0, .slice none 0 0] 38) = WF at y9 hbb
    simp only [put14] at hWF
    rw [hWF]
    have hok : UOk w.heap.size WF (badU n x er a) := by
      unfold UOk
      have : ofM (badU n x er a).x = .bad er a := HOF.out
      rw [this]
      rfl
    clear hWF y1 y2 y2t P2 HOF he'
    refine bodyPost_ret (v := .agg (unC (badU n x er a)).toArray) ?_ rfl ⟨badU n x er a, rfl, rfl, hok, hbb⟩
    simp [results, Tryz.results28, go_sem, y9, unC, badU]
  | ok l h k =>
    rw [hof] at ho
    obtain ⟨AL, cL, A, c, rfl, ht, hlc, hk⟩ := ho
    obtain ⟨f1, _, _, f4, f5⟩ := of_facts hof
    have f6 := of_gdi hof
    obtain ⟨kd, fro, til, wd, at_⟩ := h
    simp only at f1
    subst f1
    obtain ⟨W3, hW3⟩ : ∃ W3, W3 = w2.alloc (.cells #[.int .i64 1, .int .i64 fro, .int .i64 til, .string wd, .int .i64 at_, .slice A k.len c] 38) := ⟨_, rfl⟩
    have s3 : W3.heap.size = w2.heap.size + 1 := by rw [hW3]; simp
    have b3 : Below w2.heap.size w2 W3 := by rw [hW3]; exact belA w2 _
    have hk2 : TV W3 W3.heap.size (tr k) A c := tv_of (fun g _ hg => hg) f5 (hk.below b3)
    have r4 : RowB W3 w2.heap.size 38 #[.int .i64 1, .int .i64 fro, .int .i64 til, .string wd, .int .i64 at_, .slice A k.len c] := by rw [hW3]; exact RowB.new w2 38 _
    have hcnt : (tr k).cnt ≤ 16000 := by rw [fc_tr]; omega
    obtain ⟨st, hst⟩ : ∃ st, st = file (tr k) := ⟨_, rfl⟩
    have hof2 : ofS (hi_ ⟨1, fro, til, wd, at_⟩) (tr k) = st := by rw [hst]; rfl
    obtain ⟨m, hm⟩ : ∃ m, m = k.len := ⟨_, rfl⟩
    obtain ⟨ml, hml⟩ : ∃ ml, ml = l.length := ⟨_, rfl⟩
    have CP : Hid (∀ W, Below W3.heap.size W3 W → Calls Tryz.prog 69 #[.agg #[.int .i64 1, .int .i64 fro, .int .i64 til, .string wd, .int .i64 at_, .slice A m c]] W (OfA W st)) := fun W hW => by
      have := of_any (hi_ ⟨1, fro, til, wd, at_⟩) (tr k) A c ((hk2.keep (Old.of hW)).up hW.size) (by omega)
      rw [hof2, tr_len, ← hm] at this
      exact this
    have r1' := r1.below b3 r1.lt
    have r2' := r2.below b3 r2.lt
    have C1 := Lib.hid r1'.cell
    have L1 := Lib.hid r1'.lt
    have N1 : Hid (w.heap.size ≠ w.heap.size + 1) := by unfold Hid; omega
    have N4 : Hid (w2.heap.size ≠ w.heap.size + 1) := by unfold Hid; omega
    have HM := Lib.hid hm
    have HML := Lib.hid hml
    have HTK := Lib.hid ht
    have HLC := Lib.hid hlc
    have HK := Lib.hid hk
    have HOF := Lib.hid hof
    have HST := Lib.hid hst
    have HF6 := Lib.hid f6
    have B3 := Lib.hid b3
    have HW3 := Lib.hid hW3
    have R2P := Lib.hid r2'
    have R2Q := Lib.hid r2
    have S3 := Lib.hid s3
    rw [← hm] at r4 HW3 ⊢
    rw [← hml]
    have C4 := Lib.hid r4.cell
    have L4 := Lib.hid r4.lt
    clear hb CO r1 r2 r1' r2' r4 hk2 hk ht hlc hof hst hof2 hcnt f4 f5 f6 b3 hW3 hm hml s3
    obtain ⟨b4, hb4⟩ : ∃ b4, b4 = w2.heap.size := ⟨_, rfl⟩
    have HB4 := Lib.hid hb4
    rw [← hb4] at C4 L4 N4
    have y1 : ∀ i, w2.cell? ⟨w.heap.size, i, none⟩ = #[Value.string n, .string x][i]? := fun i => (B3.out.cell (p := ⟨w.heap.size, i, none⟩) q1).symm.trans (C1.out i)
    clear hb4
    go_wp2_with fail
    rw [← HW3.out]
    try rw [← HB4.out]
    clear y1
    refine wp_region_G (S := SG (fun w' => Ap (w.heap.size + 1) W3 w') 99 (fun _ => True) 99 (fun _ => True)) (by kernel_rfl) ⟨Ap.of (Below.drew (Below.refl _ _)), fun _ => trivial, fun _ => trivial⟩ (fun hS => ?_)
    refine wpG_t0 (i := 0) (v := ?v0) rfl (by kernel_rfl) (fun _ _ _ h => h) hS (Or.inl ⟨by rfl, ?hy0⟩) ?rest0
    case hy0 => (intro w' hw; go_simp; try with_reducible rfl)
    replace hS := SG.set (i := 0) (by decide) (by decide) hS
    try simp only [pL]
    refine wpG_t0 (i := 1) (v := ?v1) rfl (by kernel_rfl) (fun _ _ _ h => h) hS (Or.inl ⟨by rfl, ?hy1⟩) ?rest1
    case hy1 => (intro w' hw; have u0 := (hw.cell (o := 0) L1.out N1.out).trans (C1.out 0); have u1 := (hw.cell (o := 1) L1.out N1.out).trans (C1.out 1); go_simp; try with_reducible rfl)
    replace hS := SG.set (i := 1) (by decide) (by decide) hS
    try simp only [pL]
    refine wpG_t0 (i := 2) (v := ?v2) rfl (by kernel_rfl) (fun _ _ _ h => h) hS (Or.inl ⟨by rfl, ?hy2⟩) ?rest2
    case hy2 => (intro w' hw; go_simp; try with_reducible rfl)
    replace hS := SG.set (i := 2) (by decide) (by decide) hS
    try simp only [pL]
    refine wpG_t0 (i := 3) (v := ?v3) rfl (by kernel_rfl) (fun _ _ _ h => h) hS (Or.inl ⟨by rfl, ?hy3⟩) ?rest3
    case hy3 => (intro w' hw; have u0 := (hw.cell (o := 0) L1.out N1.out).trans (C1.out 0); have u1 := (hw.cell (o := 1) L1.out N1.out).trans (C1.out 1); go_simp; try with_reducible rfl)
    replace hS := SG.set (i := 3) (by decide) (by decide) hS
    try simp only [pL]
    refine wpG_t0 (i := 4) (v := ?v4) rfl (by kernel_rfl) (fun _ _ _ h => h) hS (Or.inl ⟨by rfl, ?hy4⟩) ?rest4
    case hy4 => (intro w' hw; go_simp; try with_reducible rfl)
    replace hS := SG.set (i := 4) (by decide) (by decide) hS
    try simp only [pL]
    refine wpG_t0 (i := 5) (v := ?v5) rfl (by kernel_rfl) (fun _ _ _ h => h) hS (Or.inl ⟨by rfl, ?hy5⟩) ?rest5
    case hy5 => (intro w' hw; have n0 := (hw.cell (o := 0) L4.out N4.out).trans (C4.out 0); have n1 := (hw.cell (o := 1) L4.out N4.out).trans (C4.out 1); have n2 := (hw.cell (o := 2) L4.out N4.out).trans (C4.out 2); have n3 := (hw.cell (o := 3) L4.out N4.out).trans (C4.out 3); have n4 := (hw.cell (o := 4) L4.out N4.out).trans (C4.out 4); have n5 := (hw.cell (o := 5) L4.out N4.out).trans (C4.out 5); go_simp; try with_reducible rfl)
    replace hS := SG.set (i := 5) (by decide) (by decide) hS
    try simp only [pL]
    refine wpG_t0 (i := 6) (v := ?v6) rfl (by kernel_rfl) (fun _ _ _ h => h) hS (Or.inl ⟨by rfl, ?hy6⟩) ?rest6
    case hy6 => (intro w' hw; have n0 := (hw.cell (o := 0) L4.out N4.out).trans (C4.out 0); have n1 := (hw.cell (o := 1) L4.out N4.out).trans (C4.out 1); have n2 := (hw.cell (o := 2) L4.out N4.out).trans (C4.out 2); have n3 := (hw.cell (o := 3) L4.out N4.out).trans (C4.out 3); have n4 := (hw.cell (o := 4) L4.out N4.out).trans (C4.out 4); have n5 := (hw.cell (o := 5) L4.out N4.out).trans (C4.out 5); go_simp; try with_reducible rfl)
    replace hS := SG.set (i := 6) (by decide) (by decide) hS
    try simp only [pL]
    refine wpG_ready (rs := [7]) (by kernel_rfl) (by simp) ?_
    refine RG.cons rfl rfl (fun K hK => ?_) RG.nil
    go_simp
    refine (CP.out _ (Below.drew (Below.refl _ _))).mono ?_
    rintro e x2 ⟨A1, c1, A2, c2, A3, c3, l3, rfl, hss, k1, k2, k3, _, _, _, hbd, hx⟩
    go_wp2_with fail
    have hda := (Below.drew (Below.refl W3.heap.size W3)).trans hx
    have HDA := Lib.hid hda
    have K1 := Lib.hid k1
    have K2 := Lib.hid k2
    have K3 := Lib.hid k3
    have HSS := Lib.hid hss
    have HBD := Lib.hid hbd
    have Y9 := Lib.hid (R2P.out.below hda R2P.out.lt)
    clear hss k1 k2 k3 hbd hx
    refine hK.out _ _ ⟨Ap.of hda, fun _ => trivial, fun _ => trivial⟩ (fun hS => ?_)
    clear hK K
    try simp only [pL]
    refine wpG_t0 (i := 8) (v := ?v8) rfl (by kernel_rfl) (fun _ _ _ h => h) hS (Or.inl ⟨by rfl, ?hy8⟩) ?rest8
    case hy8 => (intro w' hw; go_simp; try with_reducible rfl)
    replace hS := SG.set (i := 8) (by decide) (by decide) hS
    try simp only [pL]
    have y9 := Y9.out.cell
    have y9t := Y9.out.thaw
    clear hda
    refine wpG_ready (rs := [9]) (by kernel_rfl) (by simp) ?_
    refine RG.cons rfl rfl (fun K hK => ?_) RG.nil
    go_simp
    refine hK.out _ _ ⟨by (repeat refine Ap.put ?_ _ _); exact Ap.of HDA.out, fun _ => trivial, fun _ => trivial⟩ (fun hS => ?_)
    clear hK K
    try simp only [pL]
    refine wpG_done (by kernel_rfl) ?_ _
    clear hS y9 y9t CP
    go_wp2_with fail
    obtain ⟨u, hu⟩ : ∃ u : Un, u = ⟨n, x, AL, ml, cL, 1, fro, til, wd, at_, A, m, c, A1, st.bs.length, c1, A2, st.ms.length, c2, A3, st.bad.length, c3, 0, 0⟩ := ⟨_, rfl⟩
    have hl3 : l3 = sortR [] st.bad := HSS.out.uniq (sortR_st st.bad)
    have hbx : Below w.heap.size w x2 := (B2.out.trans (B3.out.mono B2.out.size)).trans (HDA.out.mono (by have := B2.out.size; have := B3.out.size; omega))
    have hb2x : Below w2.heap.size w2 x2 := B3.out.trans (HDA.out.mono B3.out.size)
    have hlo : w.heap.size + 1 < W3.drew.heap.size := by have : W3.drew.heap.size = W3.heap.size := rfl; have := S3.out; omega
    rw [hl3] at K3
    have hst : stF k = st := HST.out.symm
    have hGc : w2.cell? ⟨w.heap.size + 1, 0, none⟩ = some (.string eb) := R2Q.out.cell 0
    have hkk : KV w2 (fun g => w.heap.size + 2 ≤ g) k A c := HK.out.keep (Nat.le_refl _) fun g hg hl => ⟨rfl, by have := S1.out; omega⟩
    have rlo : ∀ {α : Type} {f : α → List Value} {sz : Nat} {B : Option Addr} {q : List α}, RowAt x2 W3.drew.heap.size x2.heap.size f sz B q → RowAt x2 (w.heap.size + 2) x2.heap.size f sz B q := fun h => row_fin h (by omega) (Nat.le_refl _) fun _ _ _ _ => rfl
    have gen : ∀ W' : World, (∀ g, g ≠ w.heap.size + 1 → W'.heap[g]? = x2.heap[g]?) → W'.heap.size = x2.heap.size → UGood w.heap.size W' u l ⟨1, fro, til, wd, at_⟩ k := fun W' hP hs => by
      rw [hu]
      refine UGood.mono (lo := w.heap.size + 2) ?_ (by omega)
      exact ugood_of hP hs rfl ⟨rfl, rfl⟩ HML.out HLC.out HM.out (by rw [hst]) (by rw [hst]) (by rw [hst]) (by rw [hst]; exact HBD.out) HTK.out hGc hkk hb2x (by omega) (by rw [hst]; exact rlo K1.out) (by rw [hst]; exact rlo K2.out) (by rw [hst]; exact rlo K3.out)
    have hux : u.x = x := by rw [hu]
    have FE : Hid (∀ a0 a1 a2 a3 a4 a5 a6 a7 a8 a9 a10 a11 a12 a13 : Value, UOk w.heap.size (put14 x2 (w.heap.size + 1) a0 a1 a2 a3 a4 a5 a6 a7 a8 a9 a10 a11 a12 a13) u ∧ Below w.heap.size w (put14 x2 (w.heap.size + 1) a0 a1 a2 a3 a4 a5 a6 a7 a8 a9 a10 a11 a12 a13)) := fun a0 a1 a2 a3 a4 a5 a6 a7 a8 a9 a10 a11 a12 a13 => by
      refine ⟨?_, put14_below hbx (by omega) a0 a1 a2 a3 a4 a5 a6 a7 a8 a9 a10 a11 a12 a13⟩
      unfold UOk
      rw [hux, HOF.out]
      exact gen _ (fun g hg => put14_block x2 _ a0 a1 a2 a3 a4 a5 a6 a7 a8 a9 a10 a11 a12 a13 hg) (put14_size x2 _ a0 a1 a2 a3 a4 a5 a6 a7 a8 a9 a10 a11 a12 a13)
    have y9 := (put14_row Y9.out (.string n) (.string x) (.slice AL ml cL) (.int .i64 1) (.int .i64 fro) (.int .i64 til) (.string wd) (.int .i64 at_) (.slice A m c) (.slice A1 st.bs.length c1) (.slice A2 st.ms.length c2) (.slice A3 st.bad.length c3) (.int .i64 0) (.int .i64 0)).cell
    have hfe := FE.out (.string n) (.string x) (.slice AL ml cL) (.int .i64 1) (.int .i64 fro) (.int .i64 til) (.string wd) (.int .i64 at_) (.slice A m c) (.slice A1 st.bs.length c1) (.slice A2 st.ms.length c2) (.slice A3 st.bad.length c3) (.int .i64 0) (.int .i64 0)
    generalize hWF : put14 x2 (w.heap.size + 1) (.string n) (.string x) (.slice AL ml cL) (.int .i64 1) (.int .i64 fro) (.int .i64 til) (.string wd) (.int .i64 at_) (.slice A m c) (.slice A1 st.bs.length c1) (.slice A2 st.ms.length c2) (.slice A3 st.bad.length c3) (.int .i64 0) (.int .i64 0) = WF at y9 hfe
    simp only [put14] at hWF
    rw [hWF]
    have hnx : nx u = (n, x) := by rw [hu]; rfl
    have hcl : unC u = [.string n, .string x, .slice AL ml cL, .int .i64 1, .int .i64 fro, .int .i64 til, .string wd, .int .i64 at_, .slice A m c, .slice A1 st.bs.length c1, .slice A2 st.ms.length c2, .slice A3 st.bad.length c3, .int .i64 0, .int .i64 0] := by rw [hu]; rfl
    clear hWF hu FE gen
    refine bodyPost_ret (v := .agg (unC u).toArray) ?_ rfl ⟨u, rfl, hnx, hfe.1, hfe.2⟩
    rw [hcl]
    simp [results, Tryz.results28, go_sem, y9]
end Pj
end Go.Proofs.YthjflofcgdfekaaGreatDoor
namespace Go.Proofs.YthjflofcgdfekaaGreatDoor
open Go.RowKit Go.Op
namespace Pj
open Sc Od Og Su Ps Pg Vm
open Sb (RowAt)
def mdC (m : ByteArray × ByteArray) : List Value := [.string m.1, .string m.2]
def putO (w : World) (g o : Nat) (a0 a1 a2 a3 a4 a5 a6 a7 a8 a9 a10 a11 a12 a13 : Value) : World := ((((((((((((((w.setCell ⟨g, o, none⟩ a0).setCell ⟨g, o + 1, none⟩ a1).setCell ⟨g, o + 2, none⟩ a2).setCell ⟨g, o + 3, none⟩ a3).setCell ⟨g, o + 4, none⟩ a4).setCell ⟨g, o + 5, none⟩ a5).setCell ⟨g, o + 6, none⟩ a6).setCell ⟨g, o + 7, none⟩ a7).setCell ⟨g, o + 8, none⟩ a8).setCell ⟨g, o + 9, none⟩ a9).setCell ⟨g, o + 10, none⟩ a10).setCell ⟨g, o + 11, none⟩ a11).setCell ⟨g, o + 12, none⟩ a12).setCell ⟨g, o + 13, none⟩ a13)
theorem putO_block (w : World) (g o : Nat) (a0 a1 a2 a3 a4 a5 a6 a7 a8 a9 a10 a11 a12 a13 : Value) {k : Nat} (hk : k ≠ g) : (putO w g o a0 a1 a2 a3 a4 a5 a6 a7 a8 a9 a10 a11 a12 a13).heap[k]? = w.heap[k]? := by
  unfold putO
  repeat rw [Below.heap_setCell _ _ _ k hk]
theorem putO_size (w : World) (g o : Nat) (a0 a1 a2 a3 a4 a5 a6 a7 a8 a9 a10 a11 a12 a13 : Value) : (putO w g o a0 a1 a2 a3 a4 a5 a6 a7 a8 a9 a10 a11 a12 a13).heap.size = w.heap.size := by simp [putO, World.setCell]
theorem putO_below {b : Nat} {v w : World} {g : Nat} (h : Below b v w) (hg : b ≤ g) (o : Nat) (a0 a1 a2 a3 a4 a5 a6 a7 a8 a9 a10 a11 a12 a13 : Value) : Below b v (putO w g o a0 a1 a2 a3 a4 a5 a6 a7 a8 a9 a10 a11 a12 a13) := by
  unfold putO
  repeat refine Below.setCell ?_ (by exact hg) _
  exact h
theorem putO_row {w : World} {g : Nat} {cs : Array Value} (h : RowB w g 52 cs) (o : Nat) (a0 a1 a2 a3 a4 a5 a6 a7 a8 a9 a10 a11 a12 a13 : Value) : RowB (putO w g o a0 a1 a2 a3 a4 a5 a6 a7 a8 a9 a10 a11 a12 a13) g 52 ((((((((((((((cs.setIfInBounds (o) a0).setIfInBounds (o + 1) a1).setIfInBounds (o + 2) a2).setIfInBounds (o + 3) a3).setIfInBounds (o + 4) a4).setIfInBounds (o + 5) a5).setIfInBounds (o + 6) a6).setIfInBounds (o + 7) a7).setIfInBounds (o + 8) a8).setIfInBounds (o + 9) a9).setIfInBounds (o + 10) a10).setIfInBounds (o + 11) a11).setIfInBounds (o + 12) a12).setIfInBounds (o + 13) a13) := ((((((((((((((h.put (o) a0).put (o + 1) a1).put (o + 2) a2).put (o + 3) a3).put (o + 4) a4).put (o + 5) a5).put (o + 6) a6).put (o + 7) a7).put (o + 8) a8).put (o + 9) a9).put (o + 10) a10).put (o + 11) a11).put (o + 12) a12).put (o + 13) a13)
theorem set14_get (cs : Array Value) (o : Nat) (a0 a1 a2 a3 a4 a5 a6 a7 a8 a9 a10 a11 a12 a13 : Value) (ho : o + 14 ≤ cs.size) : (((((((((((((((cs.setIfInBounds (o) a0).setIfInBounds (o + 1) a1).setIfInBounds (o + 2) a2).setIfInBounds (o + 3) a3).setIfInBounds (o + 4) a4).setIfInBounds (o + 5) a5).setIfInBounds (o + 6) a6).setIfInBounds (o + 7) a7).setIfInBounds (o + 8) a8).setIfInBounds (o + 9) a9).setIfInBounds (o + 10) a10).setIfInBounds (o + 11) a11).setIfInBounds (o + 12) a12).setIfInBounds (o + 13) a13)).size = cs.size ∧ (∀ j u, ([a0, a1, a2, a3, a4, a5, a6, a7, a8, a9, a10, a11, a12, a13] : List Value)[j]? = some u → (((((((((((((((cs.setIfInBounds (o) a0).setIfInBounds (o + 1) a1).setIfInBounds (o + 2) a2).setIfInBounds (o + 3) a3).setIfInBounds (o + 4) a4).setIfInBounds (o + 5) a5).setIfInBounds (o + 6) a6).setIfInBounds (o + 7) a7).setIfInBounds (o + 8) a8).setIfInBounds (o + 9) a9).setIfInBounds (o + 10) a10).setIfInBounds (o + 11) a11).setIfInBounds (o + 12) a12).setIfInBounds (o + 13) a13))[o + j]? = some u) ∧ ∀ m, (m < o ∨ o + 14 ≤ m) → (((((((((((((((cs.setIfInBounds (o) a0).setIfInBounds (o + 1) a1).setIfInBounds (o + 2) a2).setIfInBounds (o + 3) a3).setIfInBounds (o + 4) a4).setIfInBounds (o + 5) a5).setIfInBounds (o + 6) a6).setIfInBounds (o + 7) a7).setIfInBounds (o + 8) a8).setIfInBounds (o + 9) a9).setIfInBounds (o + 10) a10).setIfInBounds (o + 11) a11).setIfInBounds (o + 12) a12).setIfInBounds (o + 13) a13))[m]? = cs[m]? := by
  refine ⟨by simp, fun j u hj => ?_, fun m hm => ?_⟩
  · have hj14 : j < 14 := by have := (List.getElem?_eq_some_iff.1 hj).1; simpa using this
    simp only [Array.getElem?_setIfInBounds, Array.size_setIfInBounds]
    match j, hj14, hj with
    | 0, _, hj => (simp only [List.getElem?_cons_zero, Option.some.injEq] at hj; subst hj; repeat (first | rw [if_pos (by omega), if_pos (by omega)] | rw [if_neg (by omega)]))
    | 1, _, hj => (simp only [List.getElem?_cons_succ, List.getElem?_cons_zero, Option.some.injEq] at hj; subst hj; repeat (first | rw [if_pos (by omega), if_pos (by omega)] | rw [if_neg (by omega)]))
    | 2, _, hj => (simp only [List.getElem?_cons_succ, List.getElem?_cons_zero, Option.some.injEq] at hj; subst hj; repeat (first | rw [if_pos (by omega), if_pos (by omega)] | rw [if_neg (by omega)]))
    | 3, _, hj => (simp only [List.getElem?_cons_succ, List.getElem?_cons_zero, Option.some.injEq] at hj; subst hj; repeat (first | rw [if_pos (by omega), if_pos (by omega)] | rw [if_neg (by omega)]))
    | 4, _, hj => (simp only [List.getElem?_cons_succ, List.getElem?_cons_zero, Option.some.injEq] at hj; subst hj; repeat (first | rw [if_pos (by omega), if_pos (by omega)] | rw [if_neg (by omega)]))
    | 5, _, hj => (simp only [List.getElem?_cons_succ, List.getElem?_cons_zero, Option.some.injEq] at hj; subst hj; repeat (first | rw [if_pos (by omega), if_pos (by omega)] | rw [if_neg (by omega)]))
    | 6, _, hj => (simp only [List.getElem?_cons_succ, List.getElem?_cons_zero, Option.some.injEq] at hj; subst hj; repeat (first | rw [if_pos (by omega), if_pos (by omega)] | rw [if_neg (by omega)]))
    | 7, _, hj => (simp only [List.getElem?_cons_succ, List.getElem?_cons_zero, Option.some.injEq] at hj; subst hj; repeat (first | rw [if_pos (by omega), if_pos (by omega)] | rw [if_neg (by omega)]))
    | 8, _, hj => (simp only [List.getElem?_cons_succ, List.getElem?_cons_zero, Option.some.injEq] at hj; subst hj; repeat (first | rw [if_pos (by omega), if_pos (by omega)] | rw [if_neg (by omega)]))
    | 9, _, hj => (simp only [List.getElem?_cons_succ, List.getElem?_cons_zero, Option.some.injEq] at hj; subst hj; repeat (first | rw [if_pos (by omega), if_pos (by omega)] | rw [if_neg (by omega)]))
    | 10, _, hj => (simp only [List.getElem?_cons_succ, List.getElem?_cons_zero, Option.some.injEq] at hj; subst hj; repeat (first | rw [if_pos (by omega), if_pos (by omega)] | rw [if_neg (by omega)]))
    | 11, _, hj => (simp only [List.getElem?_cons_succ, List.getElem?_cons_zero, Option.some.injEq] at hj; subst hj; repeat (first | rw [if_pos (by omega), if_pos (by omega)] | rw [if_neg (by omega)]))
    | 12, _, hj => (simp only [List.getElem?_cons_succ, List.getElem?_cons_zero, Option.some.injEq] at hj; subst hj; repeat (first | rw [if_pos (by omega), if_pos (by omega)] | rw [if_neg (by omega)]))
    | 13, _, hj => (simp only [List.getElem?_cons_succ, List.getElem?_cons_zero, Option.some.injEq] at hj; subst hj; repeat (first | rw [if_pos (by omega), if_pos (by omega)] | rw [if_neg (by omega)]))
  · simp only [Array.getElem?_setIfInBounds, Array.size_setIfInBounds]
    repeat rw [if_neg (by omega)]
end Pj
end Go.Proofs.YthjflofcgdfekaaGreatDoor
