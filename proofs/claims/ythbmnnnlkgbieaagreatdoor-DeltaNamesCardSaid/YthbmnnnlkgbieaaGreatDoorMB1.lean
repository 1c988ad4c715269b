/- Contracts: scores and places of package delta. -/
import Derived.Test.YthbmnnnlkgbieaaGreatDoorBase
import Derived.Test.YthbmnnnlkgbieaaGreatDoorMA1
import Derived.Deep.RegionHeld3
import Derived.BigRegion
import Derived.RegionTactic
import Derived.ChangeAlike
import Derived.Deep.CutRange
import Derived.OwnWalk
import Derived.Laws.StructEq
import Derived.Lib.QuietBelow
import Derived.BigQuiet
namespace Go.Proofs.YthbmnnnlkgbieaaGreatDoor
open Go.RowKit

abbrev scv (s : Dl.Sc) : Value := .agg #[.int .i32 s.k, .int .i32 s.g]

theorem bel1 (w : World) (o1 : Obj) : Below w.heap.size w (w.alloc o1) := (Below.refl _ _).alloc (Nat.le_refl _) _
theorem bel2 (w : World) (o1 o2 : Obj) : Below w.heap.size w ((w.alloc o1).alloc o2) := (bel1 w o1).alloc (by simp) _
theorem bel3 (w : World) (o1 o2 o3 : Obj) : Below w.heap.size w (((w.alloc o1).alloc o2).alloc o3) := (bel2 w o1 o2).alloc (by simp; omega) _

/-- Blocks that are new, one behind the other one. -/
theorem heap_new (w : World) (o : Obj) : (w.alloc o).heap[w.heap.size]? = some o := heap_alloc_new w o
theorem heap_old {w : World} {o p : Obj} {g : Nat} (h : w.heap[g]? = some p) : (w.alloc o).heap[g]? = some p := by
  have hlt : g < w.heap.size := by
    rcases Nat.lt_or_ge g w.heap.size with h1 | h1
    · exact h1
    · rw [Array.getElem?_eq_none h1] at h; cases h
  exact (Below.heap_alloc w o g hlt).trans h
theorem new5 (w : World) (o0 o1 o2 o3 o4 : Obj) :
    (((((w.alloc o0).alloc o1).alloc o2).alloc o3).alloc o4).heap[w.heap.size]? = some o0 ∧ (((((w.alloc o0).alloc o1).alloc o2).alloc o3).alloc o4).heap[w.heap.size + 1]? = some o1 ∧
    (((((w.alloc o0).alloc o1).alloc o2).alloc o3).alloc o4).heap[w.heap.size + 2]? = some o2 ∧ (((((w.alloc o0).alloc o1).alloc o2).alloc o3).alloc o4).heap[w.heap.size + 3]? = some o3 ∧
    (((((w.alloc o0).alloc o1).alloc o2).alloc o3).alloc o4).heap[w.heap.size + 4]? = some o4 := by
  have e1 : (w.alloc o0).heap.size = w.heap.size + 1 := by simp
  have e2 : ((w.alloc o0).alloc o1).heap.size = w.heap.size + 2 := by simp
  have e3 : (((w.alloc o0).alloc o1).alloc o2).heap.size = w.heap.size + 3 := by simp
  have e4 : ((((w.alloc o0).alloc o1).alloc o2).alloc o3).heap.size = w.heap.size + 4 := by simp
  refine ⟨heap_old (heap_old (heap_old (heap_old (heap_new w o0)))), ?_, ?_, ?_, ?_⟩
  · rw [← e1]; exact heap_old (heap_old (heap_old (heap_new _ o1)))
  · rw [← e2]; exact heap_old (heap_old (heap_new _ o2))
  · rw [← e3]; exact heap_old (heap_new _ o3)
  · rw [← e4]; exact heap_new _ o4

theorem new3 (w : World) (o0 o1 o2 : Obj) :
    (((w.alloc o0).alloc o1).alloc o2).heap[w.heap.size]? = some o0 ∧ (((w.alloc o0).alloc o1).alloc o2).heap[w.heap.size + 1]? = some o1 ∧ (((w.alloc o0).alloc o1).alloc o2).heap[w.heap.size + 2]? = some o2 := by
  have e1 : (w.alloc o0).heap.size = w.heap.size + 1 := by simp
  have e2 : ((w.alloc o0).alloc o1).heap.size = w.heap.size + 2 := by simp
  refine ⟨heap_old (heap_old (heap_new w o0)), ?_, ?_⟩
  · rw [← e1]; exact heap_old (heap_new _ o1)
  · rw [← e2]; exact heap_new _ o2
theorem new4 (w : World) (o0 o1 o2 o3 : Obj) :
    ((((w.alloc o0).alloc o1).alloc o2).alloc o3).heap[w.heap.size]? = some o0 ∧ ((((w.alloc o0).alloc o1).alloc o2).alloc o3).heap[w.heap.size + 1]? = some o1 ∧ ((((w.alloc o0).alloc o1).alloc o2).alloc o3).heap[w.heap.size + 2]? = some o2 ∧ ((((w.alloc o0).alloc o1).alloc o2).alloc o3).heap[w.heap.size + 3]? = some o3 := by
  have e3 : (((w.alloc o0).alloc o1).alloc o2).heap.size = w.heap.size + 3 := by simp
  obtain ⟨h0, h1, h2⟩ := new3 w o0 o1 o2
  refine ⟨heap_old h0, heap_old h1, heap_old h2, ?_⟩
  rw [← e3]; exact heap_new _ o3

set_option maxHeartbeats 1000000 in
theorem below_any (s t : Dl.Sc) (w : World) : Calls Tryz.prog 86 #[scv s, scv t] w fun e w' => e = .returned (.bool (Dl.below s t)) ∧ Below w.heap.size w w' := by
  unfold Dl.below
  by_cases h1 : s.k < t.k
  · go_enter Tryz.func86, Tryz.ntmps86
    go_wp2
    go_ret
    exact ⟨rb (by simp [h1]), bel2 _ _ _⟩
  · by_cases h2 : s.k = t.k
    · by_cases h3 : t.g < s.g
      · go_enter Tryz.func86, Tryz.ntmps86
        go_wp2
        go_ret
        exact ⟨rb (by simp), bel2 _ _ _⟩
      · go_enter Tryz.func86, Tryz.ntmps86
        go_wp2
        go_ret
        exact ⟨rb (by simp [h3]), bel2 _ _ _⟩
    · go_enter Tryz.func86, Tryz.ntmps86
      go_wp2
      go_ret
      exact ⟨rb (by simp [h1]), bel2 _ _ _⟩

set_option maxHeartbeats 1000000 in
theorem best_any (s t : Dl.Sc) (w : World) : Calls Tryz.prog 75 #[scv s, scv t] w fun e w' => e = .returned (scv (Dl.best s t)) ∧ Below w.heap.size w w' := by
  unfold Dl.best
  have C := Lib.hid (below_any s t)
  generalize Dl.below s t = b at C ⊢
  cases b
  all_goals
    go_enter Tryz.func75, Tryz.ntmps75
    go_wp2_with fail
    refine (C.out _).mono ?_
    rintro e w1 ⟨rfl, hb⟩
    have HB := Lib.hid hb
    obtain ⟨hc, hf⟩ := bcell hb
    clear hb
    go_wp2
    refine bodyPost_ret ?_ rfl ⟨rfl, ?_⟩
    · simp [results, Tryz.results75, go_sem, hc]
    · exact ((bel3 _ _ _ _).trans (HB.out.mono (by simp; omega))).setCell (by simp; omega) _ |>.setCell (by simp; omega) _
end Go.Proofs.YthbmnnnlkgbieaaGreatDoor
/- Contracts: the table of package delta: where a cell is, its ends, what is the same. -/
namespace Go.Proofs.YthbmnnnlkgbieaaGreatDoor
open Go.RowKit

/-- A table as it lies in memory. -/
structure TD where
  a : List Int
  b : List Int
  Aa : Option Addr
  Ab : Option Addr
  ca : Nat
  cb : Nat
  vb : Nat
  bb : Nat
  ck : Nat
abbrev TD.N (D : TD) : Nat := (D.a.length + 1) * (D.b.length + 1)
def TD.off (D : TD) (i j : Nat) : Nat := i * (D.b.length + 1) + j
abbrev TD.fv (D : TD) : Value := .func (.func 55) #[] #[.pointer (some ⟨D.vb, 0, none⟩), .pointer (some ⟨D.bb, 0, none⟩)]
abbrev TD.tv (D : TD) : Value := .agg #[.slice D.Aa D.a.length D.ca, .slice D.Ab D.b.length D.cb, D.fv]

structure Tb (w : World) (D : TD) : Prop where
  ha : Ints w w.heap.size D.Aa D.a
  hb : Ints w w.heap.size D.Ab D.b
  hv : RowB w D.vb 107 #[.slice (some ⟨D.ck, 0, none⟩) D.N D.N]
  hw : RowB w D.bb 76 #[.slice D.Ab D.b.length D.cb]
  hk : D.ck < w.heap.size
  hN : D.N ≤ 4194304
  hca : D.a.length ≤ D.ca
  hcb : D.b.length ≤ D.cb
theorem Tb.below {w w' : World} {D : TD} (h : Tb w D) (hb : Below w.heap.size w w') : Tb w' D :=
  ⟨(h.ha.below hb).more hb.size, (h.hb.below hb).more hb.size, h.hv.below hb h.hv.lt, h.hw.below hb h.hw.lt, Nat.lt_of_lt_of_le h.hk hb.size, h.hN, h.hca, h.hcb⟩

theorem off_lt {D : TD} {i j : Nat} (hi : i ≤ D.a.length) (hj : j ≤ D.b.length) : D.off i j < D.N := by
  unfold TD.off TD.N
  have : i * (D.b.length + 1) ≤ D.a.length * (D.b.length + 1) := Nat.mul_le_mul_right _ hi
  rw [Nat.add_mul, Nat.one_mul]
  omega
theorem len_lt {D : TD} : D.a.length < D.N ∧ D.b.length < D.N := by
  unfold TD.N
  constructor
  · have : (D.a.length + 1) * 1 ≤ (D.a.length + 1) * (D.b.length + 1) := Nat.mul_le_mul_left _ (by omega)
    omega
  · have : 1 * (D.b.length + 1) ≤ (D.a.length + 1) * (D.b.length + 1) := Nat.mul_le_mul_right _ (by omega)
    omega

set_option maxHeartbeats 1000000 in
theorem end_any (D : TD) (w : World) (_hN : D.N ≤ 4194304) : Calls Tryz.prog 56 #[D.tv] w fun e w' => e = .returned (sp D.a.length D.b.length) ∧ Below w.heap.size w w' := by
  go_enter Tryz.func56, Tryz.ntmps56
  go_wp2
  refine bodyPost_ret ?_ rfl ⟨rfl, ?_⟩
  · simp [results, Tryz.results56, go_sem]
  · exact bel2 _ _ _

set_option maxHeartbeats 1000000 in
theorem at_any (D : TD) (i j : Nat) (w : World) (hT : Tb w D) (hi : i ≤ D.a.length) (hj : j ≤ D.b.length) :
    Calls Tryz.prog 55 #[sp i j, .pointer (some ⟨D.vb, 0, none⟩), .pointer (some ⟨D.bb, 0, none⟩)] w fun e w' => e = .returned (.pointer (some ⟨D.ck, D.off i j * 4, none⟩)) ∧ Below w.heap.size w w' := by
  have hN := hT.hN
  have hl := @len_lt D
  have ho := off_lt hi hj
  have hv := (hT.hv.alloc (.cells #[.int .i64 i, .int .i64 j] 55)).cell 0
  have hw := (hT.hw.alloc (.cells #[.int .i64 i, .int .i64 j] 55)).cell 0
  obtain ⟨p, hp⟩ : ∃ p : Nat, p = i * (D.b.length + 1) := ⟨_, rfl⟩
  have hq : (i : Int) * ((D.b.length : Int) + 1) = (p : Int) := by rw [hp]; simp
  have hoff : D.off i j = p + j := by unfold TD.off; rw [hp]
  have e1 : IntKind.i64.wrap ((D.b.length : Int) + 1) = (D.b.length : Int) + 1 := by rw [IntKind.wrap_i64]; omega
  have e2 : IntKind.i64.wrap (p : Int) = (p : Int) := by rw [IntKind.wrap_i64]; omega
  rw [hoff] at ho ⊢
  clear hp hoff hT
  go_enter Tryz.func55, Tryz.ntmps55
  go_wp2
  go_ret
  exact ⟨rfl, bel1 _ _⟩

/-- Are the units at a place the same? -/
def TD.same (D : TD) (i j : Nat) : Bool := decide (D.a.getD i 0 = D.b.getD j 0)
abbrev TD.isS (D : TD) (i j : Nat) : Bool := Dl.isS D.same D.a.length D.b.length i j

theorem ints_cell {w : World} {B : Nat} {A : Option Addr} {xs : List Int} (h : Ints w B A xs) {i : Nat} (hi : i < xs.length) :
    ∃ g, A = some ⟨g, 0, none⟩ ∧ g < B ∧ w.cell? ⟨g, i, none⟩ = some (.int .i64 (xs.getD i 0)) := by
  obtain ⟨g, e, hlt, hc⟩ := h (by omega)
  exact ⟨g, e, hlt, hc i hi⟩

set_option maxHeartbeats 2000000 in
theorem isS_any (D : TD) (i j : Nat) (w : World) (hT : Tb w D) (hi : i ≤ D.a.length) (hj : j ≤ D.b.length) :
    Calls Tryz.prog 58 #[D.tv, sp i j] w fun e w' => e = .returned (.bool (D.isS i j)) ∧ Below w.heap.size w w' := by
  have hN := hT.hN
  have hl := @len_lt D
  have hca := hT.hca
  have hcb := hT.hcb
  unfold TD.isS Dl.isS TD.same
  by_cases h1 : i < D.a.length
  · by_cases h2 : j < D.b.length
    · obtain ⟨ga, ea, la, ha⟩ := ints_cell hT.ha h1
      obtain ⟨gb, eb, lb, hb⟩ := ints_cell hT.hb h2
      have za : ∀ o o' : Obj, ((w.alloc o).alloc o').cell? ⟨ga, i, none⟩ = some (.int .i64 (D.a.getD i 0)) := fun o o' => ((bel2 w o o').cell (p := ⟨ga, i, none⟩) la).trans ha
      have zb : ∀ o o' : Obj, ((w.alloc o).alloc o').cell? ⟨gb, j, none⟩ = some (.int .i64 (D.b.getD j 0)) := fun o o' => ((bel2 w o o').cell (p := ⟨gb, j, none⟩) lb).trans hb
      generalize D.a.getD i 0 = x at *
      generalize D.b.getD j 0 = y at *
      have gg : (x == y) = decide (x = y) := by rw [Bool.eq_iff_iff]; simp
      generalize decide (x = y) = q at *
      rw [show (decide (i < D.a.length) && decide (j < D.b.length) && q) = q by simp [h1, h2]]
      rw [TD.tv, ea, eb]
      clear hT ha hb ea eb
      go_enter Tryz.func58, Tryz.ntmps58
      go_wp2_with fail
      go_quiet (fail)
      go_wp2
      go_ret
      exact ⟨rfl, below_drewN (bel2 _ _ _) _⟩
    · have h3 : ¬ (j : Int) < (D.b.length : Int) := by omega
      have d3 : decide ((j : Int) < (D.b.length : Int)) = false := by simpa using h2
      have d4 : decide (j < D.b.length) = false := by simpa using h2
      rw [show (decide (i < D.a.length) && decide (j < D.b.length) && decide (D.a.getD i 0 = D.b.getD j 0)) = false by simp [h2]]
      clear hT h2
      go_enter Tryz.func58, Tryz.ntmps58
      go_wp2_with fail
      go_quiet (fail)
      go_wp2
      go_ret
      exact ⟨rfl, below_drewN (bel2 _ _ _) _⟩
  · have h3 : ¬ (i : Int) < (D.a.length : Int) := by omega
    have d3 : decide ((i : Int) < (D.a.length : Int)) = false := by simpa using h1
    have d4 : decide (i < D.a.length) = false := by simpa using h1
    rw [show (decide (i < D.a.length) && decide (j < D.b.length) && decide (D.a.getD i 0 = D.b.getD j 0)) = false by simp [h1]]
    clear hT h1
    go_enter Tryz.func58, Tryz.ntmps58
    go_wp2_with fail
    go_quiet (fail)
    go_wp2
    go_ret
    exact ⟨rfl, below_drewN (bel2 _ _ _) _⟩

/-- A cell of the table. -/
def CellAt (w : World) (ck o : Nat) (c : Dl.Sc × Dl.Sc) : Prop :=
  w.cell? ⟨ck, o * 4, none⟩ = some (.int .i32 c.1.k) ∧ w.cell? ⟨ck, o * 4 + 1, none⟩ = some (.int .i32 c.1.g) ∧
  w.cell? ⟨ck, o * 4 + 2, none⟩ = some (.int .i32 c.2.k) ∧ w.cell? ⟨ck, o * 4 + 3, none⟩ = some (.int .i32 c.2.g)
theorem CellAt.below {w w' : World} {B ck o : Nat} {c : Dl.Sc × Dl.Sc} (h : CellAt w ck o c) (hb : Below B w w') (hk : ck < B) : CellAt w' ck o c :=
  ⟨(hb.cell (p := ⟨ck, _, none⟩) hk).trans h.1, (hb.cell (p := ⟨ck, _, none⟩) hk).trans h.2.1, (hb.cell (p := ⟨ck, _, none⟩) hk).trans h.2.2.1, (hb.cell (p := ⟨ck, _, none⟩) hk).trans h.2.2.2⟩

abbrev w32 (x : Int) : Int := wrap32 x

set_option maxHeartbeats 2000000 in
theorem keep_any (D : TD) (i j : Nat) (c : Dl.Sc × Dl.Sc) (w : World) (hT : Tb w D) (hi : i < D.a.length) (hj : j < D.b.length) (hc : CellAt w D.ck (D.off (i + 1) (j + 1)) c) :
    Calls Tryz.prog 74 #[D.tv, sp i j] w fun e w' => e = .returned (scv (Dl.one w32 c.1)) ∧ Below w.heap.size w w' := by
  have hN := hT.hN
  have hl := @len_lt D
  have hk := hT.hk
  have HT := Lib.hid hT
  have HC := Lib.hid hc
  clear hT hc
  go_enter Tryz.func74, Tryz.ntmps74
  go_wp2_with fail
  refine (at_any D (i + 1) (j + 1) _ (HT.out.below (bel3 _ _ _ _)) (by omega) (by omega)).mono ?_
  rintro e w1 ⟨rfl, hb⟩
  have HB := Lib.hid ((bel3 _ _ _ _).trans (hb.mono (by simp; omega)) : Below w.heap.size w w1)
  obtain ⟨q0, q1, q2, q3⟩ := HC.out.below HB.out hk
  obtain ⟨bc, bf⟩ := bcell hb
  have hsz : w.heap.size + 1 + 1 < w1.heap.size := by have := hb.size; simp at this; omega
  clear hb
  go_wp2
  refine bodyPost_ret ?_ rfl ⟨rfl, ?_⟩
  · simp [results, Tryz.results74, go_sem, bc, hsz, Dl.one]
  · refine Below.alloc (Below.setCell (Below.setCell HB.out ?_ _) ?_ _) ?_ _ <;> simp <;> omega
end Go.Proofs.YthbmnnnlkgbieaaGreatDoor
/- Contracts: going on with a unit that isn't kept. -/
namespace Go.Proofs.YthbmnnnlkgbieaaGreatDoor
open Go.RowKit

/-- What a cell holds now. -/
def cur (w : World) (p : Addr) : Value := (w.cell? p).getD .nilIface
theorem cur_some {w : World} {p : Addr} {v : Value} (h : w.cell? p = some v) : w.cell? p = some (cur w p) := by unfold cur; rw [h]; rfl

/-- What is held while a region that draws its order is gone through: cells that are read, a result that is laid. -/
abbrev Held (w : World) (n0 t b5 b6 ck oA oB : Nat) (fv x0 x1 y0 y1 k1 g1 k2 g2 : Value) (w' : World) : Prop :=
  w'.cell? ⟨n0, 2, none⟩ = some fv ∧ w'.cell? ⟨b5, 0, none⟩ = some x0 ∧ w'.cell? ⟨b5, 1, none⟩ = some x1 ∧ w'.cell? ⟨b6, 0, none⟩ = some y0 ∧ w'.cell? ⟨b6, 1, none⟩ = some y1 ∧
  w'.cell? ⟨ck, oA * 4 + 2, none⟩ = some k1 ∧ w'.cell? ⟨ck, oA * 4 + 3, none⟩ = some g1 ∧ w'.cell? ⟨ck, oB * 4 + 2, none⟩ = some k2 ∧ w'.cell? ⟨ck, oB * 4 + 3, none⟩ = some g2 ∧
  w'.cell? ⟨t, 0, none⟩ = some (cur w' ⟨t, 0, none⟩) ∧ w'.cell? ⟨t, 1, none⟩ = some (cur w' ⟨t, 1, none⟩) ∧ w'.frozen? ⟨t, 0, none⟩ = false ∧ w'.frozen? ⟨t, 1, none⟩ = false ∧
  Below n0 w w' ∧ n0 < w'.heap.size ∧ b5 < w'.heap.size ∧ b6 < w'.heap.size ∧ ck < w'.heap.size ∧ t < w'.heap.size
theorem Held.call {w w' w2 : World} {n0 t b5 b6 ck oA oB : Nat} {fv x0 x1 y0 y1 k1 g1 k2 g2 : Value} (h : Held w n0 t b5 b6 ck oA oB fv x0 x1 y0 y1 k1 g1 k2 g2 w') (hb : Below w'.heap.size w' w2) :
    Held w n0 t b5 b6 ck oA oB fv x0 x1 y0 y1 k1 g1 k2 g2 w2 := by
  obtain ⟨h0, h1, h2, h3, h4, h5, h6, h7, h8, h9, h10, h11, h12, h13, l0, l1, l2, l3, l4⟩ := h
  have c := fun (p : Addr) (hp : p.block < w'.heap.size) => hb.cell hp
  have f := fun (p : Addr) (hp : p.block < w'.heap.size) => hb.frozen hp
  have hs := hb.size
  refine ⟨(c _ l0).trans h0, (c _ l1).trans h1, (c _ l1).trans h2, (c _ l2).trans h3, (c _ l2).trans h4, (c _ l3).trans h5, (c _ l3).trans h6, (c _ l3).trans h7, (c _ l3).trans h8,
    cur_some ((c _ l4).trans h9), cur_some ((c _ l4).trans h10), (f _ l4).trans h11, (f _ l4).trans h12, h13.trans (hb.mono (by have := h13.size; omega)), by omega, by omega, by omega, by omega, by omega⟩
theorem Held.put {w w' : World} {n0 t b5 b6 ck oA oB : Nat} {fv x0 x1 y0 y1 k1 g1 k2 g2 : Value} (h : Held w n0 t b5 b6 ck oA oB fv x0 x1 y0 y1 k1 g1 k2 g2 w')
    (ht : n0 < t) (t5 : t ≠ b5) (t6 : t ≠ b6) (tk : t ≠ ck) (u v : Value) :
    Held w n0 t b5 b6 ck oA oB fv x0 x1 y0 y1 k1 g1 k2 g2 ((w'.setCell ⟨t, 0, none⟩ u).setCell ⟨t, 1, none⟩ v) := by
  obtain ⟨h0, h1, h2, h3, h4, h5, h6, h7, h8, h9, h10, h11, h12, h13, l0, l1, l2, l3, l4⟩ := h
  have key : ∀ (p : Addr) (x : Value), t ≠ p.block → w'.cell? p = some x → ((w'.setCell ⟨t, 0, none⟩ u).setCell ⟨t, 1, none⟩ v).cell? p = some x := fun p x hp hx => by
    rw [World.cell?_setCell_far _ _ _ _ hp, World.cell?_setCell_far _ _ _ _ hp]; exact hx
  have e0 : ∃ x, ((w'.setCell ⟨t, 0, none⟩ u).setCell ⟨t, 1, none⟩ v).cell? ⟨t, 0, none⟩ = some x := by
    obtain ⟨x, hx⟩ := cell?_setCell_some (w := w') (p := ⟨t, 0, none⟩) (x := u) (q := ⟨t, 0, none⟩) h9
    exact cell?_setCell_some (p := ⟨t, 1, none⟩) (x := v) (q := ⟨t, 0, none⟩) hx
  have e1 : ∃ x, ((w'.setCell ⟨t, 0, none⟩ u).setCell ⟨t, 1, none⟩ v).cell? ⟨t, 1, none⟩ = some x := by
    obtain ⟨x, hx⟩ := cell?_setCell_some (w := w') (p := ⟨t, 0, none⟩) (x := u) (q := ⟨t, 1, none⟩) h10
    exact cell?_setCell_some (p := ⟨t, 1, none⟩) (x := v) (q := ⟨t, 1, none⟩) hx
  obtain ⟨_, e0⟩ := e0
  obtain ⟨_, e1⟩ := e1
  refine ⟨key _ _ (by simp; omega) h0, key _ _ t5 h1, key _ _ t5 h2, key _ _ t6 h3, key _ _ t6 h4, key _ _ tk h5, key _ _ tk h6, key _ _ tk h7, key _ _ tk h8, cur_some e0, cur_some e1, ?_, ?_,
    (h13.setCell (by simp; omega) _).setCell (by simp; omega) _, ?_, ?_, ?_, ?_, ?_⟩ <;> simp [*]

/-- What the cells tell of going on. -/
def skipv (D : TD) (c : Nat → Nat → Dl.Sc × Dl.Sc) (i j : Nat) : Dl.Sc :=
  if i = D.a.length then (c i (j + 1)).2
  else if j = D.b.length then (c (i + 1) j).2
  else Dl.best (c (i + 1) j).2 (c i (j + 1)).2

def Skip1 (D : TD) (w : World) (i j : Nat) (s5 s6 : Value) (wx : World) : Prop :=
  ∃ b5 b6 : Nat, s5 = .pointer (some ⟨b5, 0, none⟩) ∧ s6 = .pointer (some ⟨b6, 0, none⟩) ∧ w.heap.size + 2 < b5 ∧ w.heap.size + 2 < b6 ∧ b5 ≠ b6 ∧
    RowB wx w.heap.size 90 #[.slice D.Aa D.a.length D.ca, .slice D.Ab D.b.length D.cb, D.fv] ∧ RowB wx (w.heap.size + 1) 55 #[.int .i64 i, .int .i64 j] ∧
    RowB wx (w.heap.size + 2) 110 #[.int .i32 0, .int .i32 0] ∧ RowB wx b5 55 #[.int .i64 ((i : Int) + 1), .int .i64 j] ∧ RowB wx b6 55 #[.int .i64 i, .int .i64 ((j : Int) + 1)] ∧ Below w.heap.size w wx

set_option maxHeartbeats 4000000 in
set_option maxRecDepth 100000 in
theorem skip_any (D : TD) (i j : Nat) (c : Nat → Nat → Dl.Sc × Dl.Sc) (w : World) (hT : Tb w D) (hi : i ≤ D.a.length) (hj : j ≤ D.b.length) (he : ¬ (i = D.a.length ∧ j = D.b.length))
    (h1 : i < D.a.length → CellAt w D.ck (D.off (i + 1) j) (c (i + 1) j)) (h2 : j < D.b.length → CellAt w D.ck (D.off i (j + 1)) (c i (j + 1))) :
    Calls Tryz.prog 73 #[D.tv, sp i j] w fun e w' => e = .returned (scv (skipv D c i j)) ∧ Below w.heap.size w w' := by
  have hN := hT.hN
  have hl := @len_lt D
  have hk := hT.hk
  have HT := Lib.hid hT
  have H1 := Lib.hid h1
  have H2 := Lib.hid h2
  have ei : IntKind.i64.wrap ((i : Int) + 1) = (i : Int) + 1 := by rw [IntKind.wrap_i64]; omega
  have ej : IntKind.i64.wrap ((j : Int) + 1) = (j : Int) + 1 := by rw [IntKind.wrap_i64]; omega
  have hsk : ∃ r, r = skipv D c i j := ⟨_, rfl⟩
  obtain ⟨r, hr⟩ := hsk
  rw [← hr]
  unfold skipv at hr
  clear hT h1 h2
  go_enter Tryz.func73, Tryz.ntmps73
  go_upto_region 1 with fail
  go_cut [5, 6] from 7 to 18 (fun s5 s6 wx => Skip1 D w i j s5 s6 wx)
  case first =>
    go_region
    all_goals
      go_wp2_with fail
      go_meet
      obtain ⟨g0, g1, g2, g3, g4⟩ := new5 w (.cells #[.slice D.Aa D.a.length D.ca, .slice D.Ab D.b.length D.cb, D.fv] 90) (.cells #[.int .i64 i, .int .i64 j] 55) (.cells #[.int .i32 0, .int .i32 0] 110) _ _
      first
        | exact ⟨_, _, rfl, rfl, by omega, by omega, by omega, g0, g1, g2, g3, g4, ((bel3 _ _ _ _).trans ((bel2 _ _ _).mono (by simp; omega))).drew⟩
        | exact ⟨_, _, rfl, rfl, by omega, by omega, by omega, g0, g1, g2, g4, g3, ((bel3 _ _ _ _).trans ((bel2 _ _ _).mono (by simp; omega))).drew⟩
  case rest =>
  obtain ⟨b5, b6, rfl, rfl, l5, l6, l56, r2, r3, r4, r5, r6, hb⟩ := hcut
  have HB := Lib.hid hb
  have R2 := Lib.hid r2
  have R4 := Lib.hid r4
  have R5 := Lib.hid r5
  have R6 := Lib.hid r6
  have k2 := r2.cell
  have k3 := r3.cell
  have k5 := r5.cell
  have k6 := r6.cell
  by_cases c1 : i = D.a.length
  · have hjl : j < D.b.length := by omega
    rw [if_pos c1] at hr
    subst c1
    have c2 := H2.out hjl
    go_wp2_with fail
    refine (at_any D D.a.length (j + 1) _ (HT.out.below HB.out) (by omega) (by omega)).mono ?_
    rintro e w1 ⟨rfl, hb1⟩
    have HB1 := Lib.hid (hb1.mono HB.out.size)
    obtain ⟨q0, q1, q2, q3⟩ := c2.below (HB.out.trans HB1.out) hk
    have f4 := (R4.out.below hb1 R4.out.lt).cell
    have f4' := (R4.out.below hb1 R4.out.lt).thaw
    clear hb1 c2
    go_wp2
    refine bodyPost_ret ?_ rfl ⟨rfl, ?_⟩
    · simp [results, Tryz.results73, go_sem, f4, hr]
    · refine Below.setCell (Below.setCell (HB.out.trans HB1.out) ?_ _) ?_ _ <;> simp <;> omega
  · have hil : i < D.a.length := by omega
    have g1 : ((i : Int) == (D.a.length : Int)) = false := by rw [beq_eq_false_iff_ne]; omega
    rw [if_neg c1] at hr
    have d1 := H1.out hil
    clear c1
    by_cases c2 : j = D.b.length
    · rw [if_pos c2] at hr
      subst c2
      go_wp2_with fail
      refine (at_any D (i + 1) D.b.length _ (HT.out.below HB.out) (by omega) (by omega)).mono ?_
      rintro e w1 ⟨rfl, hb1⟩
      have HB1 := Lib.hid (hb1.mono HB.out.size)
      obtain ⟨q0, q1, q2, q3⟩ := d1.below (HB.out.trans HB1.out) hk
      have f4 := (R4.out.below hb1 R4.out.lt).cell
      have f4' := (R4.out.below hb1 R4.out.lt).thaw
      clear hb1
      go_wp2
      refine bodyPost_ret ?_ rfl ⟨rfl, ?_⟩
      · simp [results, Tryz.results73, go_sem, f4, hr]
      · refine Below.setCell (Below.setCell (HB.out.trans HB1.out) ?_ _) ?_ _ <;> simp <;> omega
    · have hjl : j < D.b.length := by omega
      have g2 : ((j : Int) == (D.b.length : Int)) = false := by rw [beq_eq_false_iff_ne]; omega
      have d2 := H2.out hjl
      rw [if_neg c2] at hr
      clear c2
      generalize hx : ((i : Int) + 1) = x1 at *
      generalize hy : ((j : Int) + 1) = y1 at *
      obtain ⟨_, _, p2, p3⟩ := d1.below HB.out hk
      obtain ⟨_, _, q2, q3⟩ := d2.below HB.out hk
      have HH : Held w w.heap.size (w.heap.size + 2) b5 b6 D.ck (D.off (i + 1) j) (D.off i (j + 1)) D.fv (.int .i64 x1) (.int .i64 j) (.int .i64 i) (.int .i64 y1)
          (.int .i32 (c (i + 1) j).2.k) (.int .i32 (c (i + 1) j).2.g) (.int .i32 (c i (j + 1)).2.k) (.int .i32 (c i (j + 1)).2.g) wc.drew :=
        ⟨R2.out.cell 2, R5.out.cell 0, R5.out.cell 1, R6.out.cell 0, R6.out.cell 1, p2, p3, q2, q3, cur_some (R4.out.cell 0), cur_some (R4.out.cell 1), R4.out.thaw 0, R4.out.thaw 1, HB.out.drew, R2.out.lt, R5.out.lt, R6.out.lt, Nat.lt_of_lt_of_le hk HB.out.size, R4.out.lt⟩
      have HH2 := Lib.hid HH
      go_wp2_with fail
      have C1 : Hid (∀ w' : World, Held w w.heap.size (w.heap.size + 2) b5 b6 D.ck (D.off (i + 1) j) (D.off i (j + 1)) D.fv (.int .i64 x1) (.int .i64 j) (.int .i64 i) (.int .i64 y1) (.int .i32 (c (i + 1) j).2.k) (.int .i32 (c (i + 1) j).2.g) (.int .i32 (c i (j + 1)).2.k) (.int .i32 (c i (j + 1)).2.g) w' → Calls Tryz.prog 55 #[.agg #[.int .i64 x1, .int .i64 j], .pointer (some ⟨D.vb, 0, none⟩), .pointer (some ⟨D.bb, 0, none⟩)] w' fun e w'' => e = .returned (.pointer (some ⟨D.ck, D.off (i + 1) j * 4, none⟩)) ∧ Below w'.heap.size w' w'') :=
        fun w' hb => by have := at_any D (i + 1) j w' (HT.out.below hb.2.2.2.2.2.2.2.2.2.2.2.2.2.1) (by omega) (by omega); rwa [show ((i + 1 : Nat) : Int) = x1 by omega] at this
      have C2 : Hid (∀ w' : World, Held w w.heap.size (w.heap.size + 2) b5 b6 D.ck (D.off (i + 1) j) (D.off i (j + 1)) D.fv (.int .i64 x1) (.int .i64 j) (.int .i64 i) (.int .i64 y1) (.int .i32 (c (i + 1) j).2.k) (.int .i32 (c (i + 1) j).2.g) (.int .i32 (c i (j + 1)).2.k) (.int .i32 (c i (j + 1)).2.g) w' → Calls Tryz.prog 55 #[.agg #[.int .i64 i, .int .i64 y1], .pointer (some ⟨D.vb, 0, none⟩), .pointer (some ⟨D.bb, 0, none⟩)] w' fun e w'' => e = .returned (.pointer (some ⟨D.ck, D.off i (j + 1) * 4, none⟩)) ∧ Below w'.heap.size w' w'') :=
        fun w' hb => by have := at_any D i (j + 1) w' (HT.out.below hb.2.2.2.2.2.2.2.2.2.2.2.2.2.1) (by omega) (by omega); rwa [show ((j + 1 : Nat) : Int) = y1 by omega] at this
      have C3 : Hid (∀ (x y : Int) (o : Nat) (w' : World), Held w w.heap.size (w.heap.size + 2) b5 b6 D.ck (D.off (i + 1) j) (D.off i (j + 1)) D.fv (.int .i64 x1) (.int .i64 j) (.int .i64 i) (.int .i64 y1) (.int .i32 (c (i + 1) j).2.k) (.int .i32 (c (i + 1) j).2.g) (.int .i32 (c i (j + 1)).2.k) (.int .i32 (c i (j + 1)).2.g) w' → ((x = x1 ∧ y = j ∧ o = D.off (i + 1) j) ∨ (x = i ∧ y = y1 ∧ o = D.off i (j + 1))) → Calls Tryz.prog 55 #[.agg #[.int .i64 x, .int .i64 y], .pointer (some ⟨D.vb, 0, none⟩), .pointer (some ⟨D.bb, 0, none⟩)] w' fun e w'' => e = .returned (.pointer (some ⟨D.ck, o * 4, none⟩)) ∧ Below w'.heap.size w' w'') := by
        rintro x y o w' hh (⟨rfl, rfl, rfl⟩ | ⟨rfl, rfl, rfl⟩)
        · exact C1.out w' hh
        · exact C2.out w' hh
      have HC : Hid (∀ w' w2 : World, Held w w.heap.size (w.heap.size + 2) b5 b6 D.ck (D.off (i + 1) j) (D.off i (j + 1)) D.fv (.int .i64 x1) (.int .i64 j) (.int .i64 i) (.int .i64 y1) (.int .i32 (c (i + 1) j).2.k) (.int .i32 (c (i + 1) j).2.g) (.int .i32 (c i (j + 1)).2.k) (.int .i32 (c i (j + 1)).2.g) w' → Below w'.heap.size w' w2 → Held w w.heap.size (w.heap.size + 2) b5 b6 D.ck (D.off (i + 1) j) (D.off i (j + 1)) D.fv (.int .i64 x1) (.int .i64 j) (.int .i64 i) (.int .i64 y1) (.int .i32 (c (i + 1) j).2.k) (.int .i32 (c (i + 1) j).2.g) (.int .i32 (c i (j + 1)).2.k) (.int .i32 (c i (j + 1)).2.g) w2) := fun w' w2 h hb => Held.call h hb
      have HP : Hid (∀ (w' : World) (u v : Value), Held w w.heap.size (w.heap.size + 2) b5 b6 D.ck (D.off (i + 1) j) (D.off i (j + 1)) D.fv (.int .i64 x1) (.int .i64 j) (.int .i64 i) (.int .i64 y1) (.int .i32 (c (i + 1) j).2.k) (.int .i32 (c (i + 1) j).2.g) (.int .i32 (c i (j + 1)).2.k) (.int .i32 (c i (j + 1)).2.g) w' → Held w w.heap.size (w.heap.size + 2) b5 b6 D.ck (D.off (i + 1) j) (D.off i (j + 1)) D.fv (.int .i64 x1) (.int .i64 j) (.int .i64 i) (.int .i64 y1) (.int .i32 (c (i + 1) j).2.k) (.int .i32 (c (i + 1) j).2.g) (.int .i32 (c i (j + 1)).2.k) (.int .i32 (c i (j + 1)).2.g) ((w'.setCell ⟨w.heap.size + 2, 0, none⟩ u).setCell ⟨w.heap.size + 2, 1, none⟩ v)) := fun w' u v h => Held.put h (by omega) (by omega) (by omega) (by omega) u v
      clear HH p2 p3 q2 q3 d1 d2 k2 k3 k5 k6 r2 r3 r4 r5 r6 hb H1 H2
      go_region_held3 (fun w' => w'.cell? ⟨w.heap.size, 2, none⟩ = some D.fv ∧ w'.cell? ⟨b5, 0, none⟩ = some (.int .i64 x1) ∧ w'.cell? ⟨b5, 1, none⟩ = some (.int .i64 j) ∧ w'.cell? ⟨b6, 0, none⟩ = some (.int .i64 i) ∧ w'.cell? ⟨b6, 1, none⟩ = some (.int .i64 y1) ∧
          w'.cell? ⟨D.ck, D.off (i + 1) j * 4 + 2, none⟩ = some (.int .i32 (c (i + 1) j).2.k) ∧ w'.cell? ⟨D.ck, D.off (i + 1) j * 4 + 3, none⟩ = some (.int .i32 (c (i + 1) j).2.g) ∧ w'.cell? ⟨D.ck, D.off i (j + 1) * 4 + 2, none⟩ = some (.int .i32 (c i (j + 1)).2.k) ∧ w'.cell? ⟨D.ck, D.off i (j + 1) * 4 + 3, none⟩ = some (.int .i32 (c i (j + 1)).2.g) ∧
          w'.cell? ⟨w.heap.size + 2, 0, none⟩ = some (cur w' ⟨w.heap.size + 2, 0, none⟩) ∧ w'.cell? ⟨w.heap.size + 2, 1, none⟩ = some (cur w' ⟨w.heap.size + 2, 1, none⟩) ∧ w'.frozen? ⟨w.heap.size + 2, 0, none⟩ = false ∧ w'.frozen? ⟨w.heap.size + 2, 1, none⟩ = false ∧
          Below w.heap.size w w' ∧ w.heap.size < w'.heap.size ∧ b5 < w'.heap.size ∧ b6 < w'.heap.size ∧ D.ck < w'.heap.size ∧ w.heap.size + 2 < w'.heap.size)
        (first
          | (exact HC.out _ _ (by assumption) hbn)
          | (exact HH2.out)
          | (exact HP.out _ _ _ (by assumption)))
        (first
          | (go_at_call 55; refine (C3.out _ _ _ _ (by assumption) (by first | exact Or.inl ⟨rfl, rfl, rfl⟩ | exact Or.inr ⟨rfl, rfl, rfl⟩)).mono ?_; rintro e w' ⟨rfl, hbn⟩)
          | (go_at_call 75; refine (best_any (c (i + 1) j).2 (c i (j + 1)).2 _).mono ?_; rintro e w' ⟨rfl, hbn⟩))
      rename_i w1 n1 w2 n2 hH
      obtain ⟨_, _, _, _, _, _, _, _, _, z9, z10, z11, z12, z13, l0, _, _, _, l4⟩ := HC.out _ _ (HC.out _ _ (HC.out _ _ HH2.out n1) n2) hbn
      have HF := Lib.hid ((z13.setCell (p := ⟨w.heap.size + 1 + 1, 0, none⟩) (by simp; omega) (.int .i32 (Dl.best (c (i + 1) j).2 (c i (j + 1)).2).k)).setCell (p := ⟨w.heap.size + 1 + 1, 1, none⟩) (by simp; omega) (.int .i32 (Dl.best (c (i + 1) j).2 (c i (j + 1)).2).g))
      clear HC HP C1 C2 C3 HH2 hH n1 n2 hbn
      go_wp2
      refine bodyPost_ret ?_ rfl ⟨rfl, HF.out⟩
      simp [results, Tryz.results73, go_sem, z9, z10, hr]
end Go.Proofs.YthbmnnnlkgbieaaGreatDoor
/- Contracts: how good a way is from a place on. -/
namespace Go.Proofs.YthbmnnnlkgbieaaGreatDoor
open Go.RowKit

/-- What is held while a region is gone through: two blocks that are read, one of four cells that is laid. -/
abbrev Held2 (w : World) (b5 b6 t : Nat) (A5 A6 : Array Value) (w' : World) : Prop :=
  (∀ o, w'.cell? ⟨b5, o, none⟩ = A5[o]?) ∧ (∀ o, w'.cell? ⟨b6, o, none⟩ = A6[o]?) ∧ (∀ o, w'.frozen? ⟨t, o, none⟩ = false) ∧ (∀ o, o < 4 → w'.cell? ⟨t, o, none⟩ = some (cur w' ⟨t, o, none⟩)) ∧
  Below w.heap.size w w' ∧ b5 < w'.heap.size ∧ b6 < w'.heap.size ∧ t < w'.heap.size
theorem Held2.call {w w' w2 : World} {b5 b6 t : Nat} {A5 A6 : Array Value} (h : Held2 w b5 b6 t A5 A6 w') (hb : Below w'.heap.size w' w2) : Held2 w b5 b6 t A5 A6 w2 := by
  obtain ⟨h0, h1, h2, h3, h4, l0, l1, l2⟩ := h
  have hs := hb.size
  exact ⟨fun o => (hb.cell (p := ⟨b5, o, none⟩) l0).trans (h0 o), fun o => (hb.cell (p := ⟨b6, o, none⟩) l1).trans (h1 o), fun o => (hb.frozen (p := ⟨t, o, none⟩) l2).trans (h2 o),
    fun o ho => cur_some ((hb.cell (p := ⟨t, o, none⟩) l2).trans (h3 o ho)), h4.trans (hb.mono h4.size), by omega, by omega, by omega⟩
theorem Held2.one {w w' : World} {b5 b6 t : Nat} {A5 A6 : Array Value} (h : Held2 w b5 b6 t A5 A6 w') (ht : w.heap.size ≤ t) (t5 : t ≠ b5) (t6 : t ≠ b6) (k : Nat) (u : Value) :
    Held2 w b5 b6 t A5 A6 (w'.setCell ⟨t, k, none⟩ u) := by
  obtain ⟨h0, h1, h2, h3, h4, l0, l1, l2⟩ := h
  refine ⟨fun o => ?_, fun o => ?_, fun o => ?_, fun o ho => ?_, h4.setCell ht _, by simpa using l0, by simpa using l1, by simpa using l2⟩
  · rw [World.cell?_setCell_far _ _ _ _ t5]; exact h0 o
  · rw [World.cell?_setCell_far _ _ _ _ t6]; exact h1 o
  · simp [h2]
  · obtain ⟨x, hx⟩ := cell?_setCell_some (w := w') (p := ⟨t, k, none⟩) (x := u) (q := ⟨t, o, none⟩) (h3 o ho)
    exact cur_some hx
theorem Held2.put {w w' : World} {b5 b6 t : Nat} {A5 A6 : Array Value} (h : Held2 w b5 b6 t A5 A6 w') (ht : w.heap.size ≤ t) (t5 : t ≠ b5) (t6 : t ≠ b6) (a b c d : Value) :
    Held2 w b5 b6 t A5 A6 ((((w'.setCell ⟨t, 0, none⟩ a).setCell ⟨t, 1, none⟩ b).setCell ⟨t, 2, none⟩ c).setCell ⟨t, 3, none⟩ d) :=
  (((h.one ht t5 t6 0 a).one ht t5 t6 1 b).one ht t5 t6 2 c).one ht t5 t6 3 d

/-- What the cells tell of a place. -/
def reckv (D : TD) (c : Nat → Nat → Dl.Sc × Dl.Sc) (i j : Nat) : Dl.Sc × Dl.Sc :=
  if D.isS i j then (Dl.one w32 (c (i + 1) (j + 1)).1, Dl.best (Dl.one w32 (c (i + 1) (j + 1)).1) (skipv D c i j))
  else (Dl.up w32 (skipv D c i j), skipv D c i j)
abbrev cev (c : Dl.Sc × Dl.Sc) : Value := .agg #[.int .i32 c.1.k, .int .i32 c.1.g, .int .i32 c.2.k, .int .i32 c.2.g]

set_option maxHeartbeats 4000000 in
set_option maxRecDepth 100000 in
theorem reckonAt_any (D : TD) (i j : Nat) (c : Nat → Nat → Dl.Sc × Dl.Sc) (w : World) (hT : Tb w D) (hi : i ≤ D.a.length) (hj : j ≤ D.b.length) (he : ¬ (i = D.a.length ∧ j = D.b.length))
    (h1 : i < D.a.length → CellAt w D.ck (D.off (i + 1) j) (c (i + 1) j)) (h2 : j < D.b.length → CellAt w D.ck (D.off i (j + 1)) (c i (j + 1)))
    (h3 : i < D.a.length → j < D.b.length → CellAt w D.ck (D.off (i + 1) (j + 1)) (c (i + 1) (j + 1))) :
    Calls Tryz.prog 57 #[D.tv, sp i j] w fun e w' => e = .returned (cev (reckv D c i j)) ∧ Below w.heap.size w w' := by
  have hk := hT.hk
  have HT := Lib.hid hT
  have H1 := Lib.hid h1
  have H2 := Lib.hid h2
  have H3 := Lib.hid h3
  obtain ⟨r, hr⟩ : ∃ r, r = skipv D c i j := ⟨_, rfl⟩
  have SK : Hid (∀ w' : World, Below w.heap.size w w' → Calls Tryz.prog 73 #[D.tv, sp i j] w' fun e w'' => e = .returned (scv r) ∧ Below w'.heap.size w' w'') := fun w' hb => by
    rw [hr]
    exact skip_any D i j c w' (HT.out.below hb) hi hj he (fun h => (H1.out h).below hb hk) (fun h => (H2.out h).below hb hk)
  obtain ⟨z, hz⟩ : ∃ z, z = D.isS i j := ⟨_, rfl⟩
  have IS : Hid (∀ w' : World, Below w.heap.size w w' → Calls Tryz.prog 58 #[D.tv, sp i j] w' fun e w'' => e = .returned (.bool z) ∧ Below w'.heap.size w' w'') := fun w' hb => by
    rw [hz]
    exact isS_any D i j w' (HT.out.below hb) hi hj
  have KP : Hid (z = true → ∀ w' : World, Below w.heap.size w w' → Calls Tryz.prog 74 #[D.tv, sp i j] w' fun e w'' => e = .returned (scv (Dl.one w32 (c (i + 1) (j + 1)).1)) ∧ Below w'.heap.size w' w'') := fun hzt w' hb => by
    rw [hz] at hzt
    unfold TD.isS Dl.isS at hzt
    simp only [Bool.and_eq_true, decide_eq_true_eq] at hzt
    exact keep_any D i j _ w' (HT.out.below hb) hzt.1.1 hzt.1.2 ((H3.out hzt.1.1 hzt.1.2).below hb hk)
  unfold reckv
  rw [← hr, ← hz]
  clear hT h1 h2 h3 H1 H2 H3 hr hz
  generalize hp : Dl.one w32 (c (i + 1) (j + 1)).1 = kp at *
  go_enter Tryz.func57, Tryz.ntmps57
  go_wp2_with fail
  refine (SK.out _ (bel3 _ _ _ _)).mono ?_
  rintro e w1 ⟨rfl, hb1⟩
  have B1 := Lib.hid ((bel3 _ _ _ _).trans (hb1.mono (by simp; omega)) : Below w.heap.size w w1)
  obtain ⟨bc, bf⟩ := bcell hb1
  have hsz : w.heap.size + 1 + 1 < w1.heap.size := by have := hb1.size; simp at this; omega
  have hsz0 : w.heap.size < w1.heap.size := by omega
  have hsz1 : w.heap.size + 1 < w1.heap.size := by omega
  have Q4 : RowB (((w.alloc (.cells #[.slice D.Aa D.a.length D.ca, .slice D.Ab D.b.length D.cb, D.fv] 90)).alloc (.cells #[.int .i64 i, .int .i64 j] 55)).alloc (.cells #[.int .i32 0, .int .i32 0, .int .i32 0, .int .i32 0] 112)) (w.heap.size + 2) 112 #[.int .i32 0, .int .i32 0, .int .i32 0, .int .i32 0] := by
    have := heap_new ((w.alloc (.cells #[.slice D.Aa D.a.length D.ca, .slice D.Ab D.b.length D.cb, D.fv] 90)).alloc (.cells #[.int .i64 i, .int .i64 j] 55)) (.cells #[.int .i32 0, .int .i32 0, .int .i32 0, .int .i32 0] 112)
    rwa [show ((w.alloc (.cells #[.slice D.Aa D.a.length D.ca, .slice D.Ab D.b.length D.cb, D.fv] 90)).alloc (.cells #[.int .i64 i, .int .i64 j] 55)).heap.size = w.heap.size + 2 by simp] at this
  have P4 := Lib.hid (Q4.below hb1 Q4.lt)
  have P5 := Lib.hid (RowB.new w1 110 #[.int .i32 r.k, .int .i32 r.g])
  clear hb1 Q4
  go_wp2_with fail
  refine (IS.out _ (B1.out.alloc B1.out.size _)).mono ?_
  rintro e w2 ⟨rfl, hb2⟩
  have B2 := Lib.hid ((B1.out.alloc B1.out.size _).trans (hb2.mono (by have := B1.out.size; simp; omega)) : Below w.heap.size w w2)
  have R4 := Lib.hid ((P4.out.alloc (.cells #[.int .i32 r.k, .int .i32 r.g] 110)).below hb2 (P4.out.alloc _).lt)
  have R5 := Lib.hid (P5.out.below hb2 P5.out.lt)
  have hsz2 : w1.heap.size < w2.heap.size := by have := hb2.size; simp at this; omega
  obtain ⟨bc2, bf2⟩ := bcell hb2
  clear hb2 P4 P5
  cases z
  · have z4 := R4.out.cell
    have y4 := R4.out.thaw
    have z5 := R5.out.cell
    clear KP IS SK
    go_wp2_with fail
    refine bodyPost_ret ?_ rfl ⟨rfl, ?_⟩
    · simp [results, Tryz.results57, go_sem, z4, Dl.up]
    · refine Below.setCell (Below.setCell (Below.setCell (Below.setCell B2.out ?_ _) ?_ _) ?_ _) ?_ _ <;> simp <;> omega
  · go_wp2_with fail
    refine (KP.out (by first | rfl | trivial) _ B2.out).mono ?_
    rintro e w3 ⟨rfl, hb3⟩
    have B3 := Lib.hid (B2.out.trans (hb3.mono B2.out.size) : Below w.heap.size w w3)
    have S4 := Lib.hid ((R4.out.below hb3 R4.out.lt).alloc (.cells #[.int .i32 kp.k, .int .i32 kp.g] 110))
    have S5 := Lib.hid ((R5.out.below hb3 R5.out.lt).alloc (.cells #[.int .i32 kp.k, .int .i32 kp.g] 110))
    have S6 := Lib.hid (RowB.new w3 110 #[.int .i32 kp.k, .int .i32 kp.g])
    have hsz3 : w2.heap.size ≤ w3.heap.size := hb3.size
    have HH : Hid (Held2 w w1.heap.size w3.heap.size (w.heap.size + 2) #[.int .i32 r.k, .int .i32 r.g] #[.int .i32 kp.k, .int .i32 kp.g] (w3.alloc (.cells #[.int .i32 kp.k, .int .i32 kp.g] 110)).drew) :=
      ⟨S5.out.cell, S6.out.cell, S4.out.thaw, fun o ho => by
        have := S4.out.cell o
        refine cur_some (v := .int .i32 0) (this.trans ?_)
        rcases o with _ | _ | _ | _ | o
        · rfl
        · rfl
        · rfl
        · rfl
        · omega, (B3.out.alloc B3.out.size _).drew, by have := S5.out.lt; exact this, by have := S6.out.lt; exact this, by have := S4.out.lt; exact this⟩
    have HC : Hid (∀ w' w2 : World, Held2 w w1.heap.size w3.heap.size (w.heap.size + 2) #[.int .i32 r.k, .int .i32 r.g] #[.int .i32 kp.k, .int .i32 kp.g] w' → Below w'.heap.size w' w2 → Held2 w w1.heap.size w3.heap.size (w.heap.size + 2) #[.int .i32 r.k, .int .i32 r.g] #[.int .i32 kp.k, .int .i32 kp.g] w2) := fun w' w2 h hb => h.call hb
    have HP : Hid (∀ (w' : World) (a b c d : Value), Held2 w w1.heap.size w3.heap.size (w.heap.size + 2) #[.int .i32 r.k, .int .i32 r.g] #[.int .i32 kp.k, .int .i32 kp.g] w' → Held2 w w1.heap.size w3.heap.size (w.heap.size + 2) #[.int .i32 r.k, .int .i32 r.g] #[.int .i32 kp.k, .int .i32 kp.g] ((((w'.setCell ⟨w.heap.size + 2, 0, none⟩ a).setCell ⟨w.heap.size + 2, 1, none⟩ b).setCell ⟨w.heap.size + 2, 2, none⟩ c).setCell ⟨w.heap.size + 2, 3, none⟩ d)) := fun w' a b c d h => h.put (by omega) (by omega) (by omega) a b c d
    clear hb3 KP IS SK bc bf bc2 bf2 S4 S5 S6 R4 R5
    go_wp2_with fail
    go_region_held3 (fun w' => (∀ o, w'.cell? ⟨w1.heap.size, o, none⟩ = #[Value.int .i32 r.k, .int .i32 r.g][o]?) ∧ (∀ o, w'.cell? ⟨w3.heap.size, o, none⟩ = #[Value.int .i32 kp.k, .int .i32 kp.g][o]?) ∧ (∀ o, w'.frozen? ⟨w.heap.size + 2, o, none⟩ = false) ∧
        (∀ o, o < 4 → w'.cell? ⟨w.heap.size + 2, o, none⟩ = some (cur w' ⟨w.heap.size + 2, o, none⟩)) ∧ Below w.heap.size w w' ∧ w1.heap.size < w'.heap.size ∧ w3.heap.size < w'.heap.size ∧ w.heap.size + 2 < w'.heap.size)
      (first
        | (exact HC.out _ _ (by assumption) hbn)
        | (exact HH.out)
        | (exact HP.out _ _ _ _ _ (by assumption)))
      ((go_at_call 75; refine (best_any kp r _).mono ?_; rintro e w' ⟨rfl, hbn⟩))
    obtain ⟨_, _, z2, z3, z4, _, _, l2⟩ := HC.out _ _ HH.out hbn
    have y0 := z3 0 (by omega)
    have y1 := z3 1 (by omega)
    have y2 := z3 2 (by omega)
    have y3 := z3 3 (by omega)
    have B4 := Lib.hid z4
    clear HC HP HH hbn z3 z4
    go_wp2
    refine bodyPost_ret ?_ rfl ⟨rfl, ?_⟩
    · simp [results, Tryz.results57, go_sem, y0, y1, y2, y3]
    · refine Below.setCell (Below.setCell (Below.setCell (Below.setCell B4.out ?_ _) ?_ _) ?_ _) ?_ _ <;> simp <;> omega
end Go.Proofs.YthbmnnnlkgbieaaGreatDoor
/- Contracts: a step into a gap, where a gap ends. -/
namespace Go.Proofs.YthbmnnnlkgbieaaGreatDoor
open Go.RowKit Go.Op

theorem eq110 (s t : Dl.Sc) (w : World) : (binOp .eql 110 (scv s) (scv t)).run Tryz.prog w = .ok (.bool (decide (s = t))) w := by
  have u3 := Tryz.underlying21
  have a3 := Tryz.isAgg21
  have z3 := Tryz.sizeOf21
  have hS : Tryz.prog.underlying 110 = some (.struct (Tryz.prog.fieldsOf 110)) := by kernel_rfl
  have hp : Tryz.prog.stoodInHeld 110 = false := by kernel_rfl
  obtain ⟨a, b⟩ := s
  obtain ⟨c, d⟩ := t
  rw [run_eql_struct, show (10000 : Nat) = 9999 + 1 from rfl, run_equalIn_agg w 9999 110 _ _ hS hp]
  simp only [Program.fieldsOf, Tryz.underlying110]
  go_simp
  by_cases h1 : a = c <;> by_cases h2 : b = d <;> simp [h1, h2]

theorem eq55 (a b c d : Int) (w : World) : (binOp .eql 55 (.agg #[.int .i64 a, .int .i64 b]) (.agg #[.int .i64 c, .int .i64 d])).run Tryz.prog w = .ok (.bool (decide (a = c) && decide (b = d))) w := by
  have u3 := Tryz.underlying3
  have a3 := Tryz.isAgg3
  have z3 := Tryz.sizeOf3
  have hS : Tryz.prog.underlying 55 = some (.struct (Tryz.prog.fieldsOf 55)) := by kernel_rfl
  have hp : Tryz.prog.stoodInHeld 55 = false := by kernel_rfl
  rw [run_eql_struct, show (10000 : Nat) = 9999 + 1 from rfl, run_equalIn_agg w 9999 55 _ _ hS hp]
  simp only [Program.fieldsOf, Tryz.underlying55]
  go_simp
  by_cases h1 : a = c <;> by_cases h2 : b = d <;> simp [h1, h2]
theorem neq55 (a b c d : Int) (w : World) : (binOp .neq 55 (.agg #[.int .i64 a, .int .i64 b]) (.agg #[.int .i64 c, .int .i64 d])).run Tryz.prog w = .ok (.bool (!(decide (a = c) && decide (b = d)))) w := by
  have u3 := Tryz.underlying3
  have a3 := Tryz.isAgg3
  have z3 := Tryz.sizeOf3
  have hS : Tryz.prog.underlying 55 = some (.struct (Tryz.prog.fieldsOf 55)) := by kernel_rfl
  have hp : Tryz.prog.stoodInHeld 55 = false := by kernel_rfl
  rw [run_neq_struct, show (10000 : Nat) = 9999 + 1 from rfl, run_equalIn_agg w 9999 55 _ _ hS hp]
  simp only [Program.fieldsOf, Tryz.underlying55]
  go_simp
  by_cases h1 : a = c <;> by_cases h2 : b = d <;> simp [h1, h2]

/-- The table's cells, by definition. -/
abbrev TD.C (D : TD) (i j : Nat) : Dl.Sc × Dl.Sc := Dl.C w32 D.same D.a.length D.b.length i j
theorem skipv_C (D : TD) (i j : Nat) : skipv D D.C i j = Dl.skip w32 D.same D.a.length D.b.length i j := rfl
theorem reckv_C (D : TD) {i j : Nat} (hi : i ≤ D.a.length) (hj : j ≤ D.b.length) (he : ¬ (i = D.a.length ∧ j = D.b.length)) : reckv D D.C i j = D.C i j := by
  rw [TD.C, Dl.C_eq w32 D.same _ _ hi hj he]
  rfl

/-- A table that is filled. -/
structure Full (w : World) (D : TD) : Prop where
  tb : Tb w D
  cells : ∀ i j, i ≤ D.a.length → j ≤ D.b.length → CellAt w D.ck (D.off i j) (D.C i j)
theorem Full.below {w w' : World} {D : TD} (h : Full w D) (hb : Below w.heap.size w w') : Full w' D :=
  ⟨h.tb.below hb, fun i j hi hj => (h.cells i j hi hj).below hb h.tb.hk⟩

abbrev TD.toOld (D : TD) (i j : Nat) : Bool := Dl.toOld w32 D.same D.a.length D.b.length i j
abbrev TD.stops (D : TD) (i j : Nat) : Bool := Dl.stops w32 D.same D.a.length D.b.length i j

set_option maxHeartbeats 4000000 in
set_option maxRecDepth 100000 in
theorem step_any (D : TD) (i j : Nat) (w : World) (hF : Full w D) (hi : i ≤ D.a.length) (hj : j ≤ D.b.length) (he : ¬ (i = D.a.length ∧ j = D.b.length)) :
    Calls Tryz.prog 76 #[D.tv, sp i j] w fun e w' => e = .returned (if D.toOld i j then sp (i + 1) j else sp i (j + 1)) ∧ Below w.heap.size w w' := by
  have hN := hF.tb.hN
  have hk := hF.tb.hk
  have hl := @len_lt D
  have HF := Lib.hid hF
  clear hF
  obtain ⟨r, hr⟩ : ∃ r, r = skipv D D.C i j := ⟨_, rfl⟩
  have SK : Hid (∀ w' : World, Below w.heap.size w w' → Calls Tryz.prog 73 #[D.tv, sp i j] w' fun e w'' => e = .returned (scv r) ∧ Below w'.heap.size w' w'') := fun w' hb => by
    have hF := HF.out.below hb
    rw [hr]
    exact skip_any D i j D.C w' hF.tb hi hj he (fun h => hF.cells _ _ (by omega) hj) (fun h => hF.cells _ _ hi (by omega))
  have AT : Hid (i < D.a.length → ∀ w' : World, Below w.heap.size w w' → Calls Tryz.prog 55 #[.agg #[.int .i64 ((i : Int) + 1), .int .i64 j], .pointer (some ⟨D.vb, 0, none⟩), .pointer (some ⟨D.bb, 0, none⟩)] w' fun e w'' => e = .returned (.pointer (some ⟨D.ck, D.off (i + 1) j * 4, none⟩)) ∧ Below w'.heap.size w' w'') := fun h w' hb =>
    at_any D (i + 1) j w' (HF.out.below hb).tb (by omega) (by omega)
  by_cases h1 : i < D.a.length
  · have AT2 := Lib.hid (AT.out h1)
    have CE := HF.out.cells (i + 1) j (by omega) hj
    unfold TD.toOld Dl.toOld
    rw [← skipv_C, ← hr]
    rw [show (decide (i < D.a.length) && decide ((Dl.C w32 D.same D.a.length D.b.length (i + 1) j).2 = r)) = decide ((D.C (i + 1) j).2 = r) by simp [h1]]
    generalize D.C (i + 1) j = c at CE ⊢
    have ei : IntKind.i64.wrap ((i : Int) + 1) = (i : Int) + 1 := by rw [IntKind.wrap_i64]; omega
    have ej : IntKind.i64.wrap ((j : Int) + 1) = (j : Int) + 1 := by rw [IntKind.wrap_i64]; omega
    have q110 := fun w => eq110 c.2 r w
    generalize decide (c.2 = r) = z at *
    clear AT hr
    go_enter Tryz.func76, Tryz.ntmps76
    go_wp2_with fail
    obtain ⟨g0, g1, g2, g3, _⟩ := new5 w (.cells #[.slice D.Aa D.a.length D.ca, .slice D.Ab D.b.length D.cb, D.fv] 90) (.cells #[.int .i64 i, .int .i64 j] 55) (.cells #[.int .i64 0, .int .i64 0] 55) (.cells #[.int .i64 ((i : Int) + 1), .int .i64 j] 55) (.cells #[] 0)
    have o4 : ∀ (u : World) (g : Nat) (o : Obj), (u.alloc (.cells #[] 0)).heap[g]? = some o → g < u.heap.size → u.heap[g]? = some o := fun u g o h hlt => (Below.heap_alloc u (.cells #[] 0) g hlt).symm.trans h
    have hB4 : Below w.heap.size w ((((w.alloc (.cells #[.slice D.Aa D.a.length D.ca, .slice D.Ab D.b.length D.cb, D.fv] 90)).alloc (.cells #[.int .i64 i, .int .i64 j] 55)).alloc (.cells #[.int .i64 0, .int .i64 0] 55)).alloc (.cells #[.int .i64 ((i : Int) + 1), .int .i64 j] 55)) := (bel3 _ _ _ _).alloc (by simp; omega) _
    have hS4 : ((((w.alloc (.cells #[.slice D.Aa D.a.length D.ca, .slice D.Ab D.b.length D.cb, D.fv] 90)).alloc (.cells #[.int .i64 i, .int .i64 j] 55)).alloc (.cells #[.int .i64 0, .int .i64 0] 55)).alloc (.cells #[.int .i64 ((i : Int) + 1), .int .i64 j] 55)).heap.size = w.heap.size + 4 := by simp
    generalize hW : ((((w.alloc (.cells #[.slice D.Aa D.a.length D.ca, .slice D.Ab D.b.length D.cb, D.fv] 90)).alloc (.cells #[.int .i64 i, .int .i64 j] 55)).alloc (.cells #[.int .i64 0, .int .i64 0] 55)).alloc (.cells #[.int .i64 ((i : Int) + 1), .int .i64 j] 55)) = W at *
    have R0 : RowB W w.heap.size 90 #[.slice D.Aa D.a.length D.ca, .slice D.Ab D.b.length D.cb, D.fv] := o4 W _ _ g0 (by omega)
    have R1 : RowB W (w.heap.size + 1) 55 #[.int .i64 i, .int .i64 j] := o4 W _ _ g1 (by omega)
    have R2 : RowB W (w.heap.size + 2) 55 #[.int .i64 0, .int .i64 0] := o4 W _ _ g2 (by omega)
    have R3 : RowB W (w.heap.size + 3) 55 #[.int .i64 ((i : Int) + 1), .int .i64 j] := o4 W _ _ g3 (by omega)
    clear g0 g1 g2 g3 o4 hW
    have z00 := fun d os => cell_regrown (R0.cell 0) d os
    have z01 := fun d os => cell_regrown (R0.cell 1) d os
    have z02 := fun d os => cell_regrown (R0.cell 2) d os
    have z10 := fun d os => cell_regrown (R1.cell 0) d os
    have z11 := fun d os => cell_regrown (R1.cell 1) d os
    have z30 := fun d os => cell_regrown (R3.cell 0) d os
    have z31 := fun d os => cell_regrown (R3.cell 1) d os
    obtain ⟨_, _, c2, c3⟩ := CE.below hB4 hk
    have zc2 := fun d os => cell_regrown c2 d os
    have zc3 := fun d os => cell_regrown c3 d os
    have hm : Hid (∀ d os, Below w.heap.size w (Go.Sort.grow (redrawn W d) os)) := fun d os => hB4.trans ((below_regrown W d os).mono hB4.size)
    clear CE c2 c3
    refine wp_region_quiet_below (by kernel_rfl) (by kernel_rfl) ?_
    repeat (go_big_quiet_step (first
      | (go_at_call 55; exact Calls.regrown_of (AT2.out _ (hm.out _ _)))
      | (go_at_call 73; exact Calls.regrown_of (SK.out _ (hm.out _ _)))))
    refine wpQuiet_nil ?_
    intro _ hw'
    obtain ⟨⟨dq, osq⟩, hw''⟩ := hw'
    subst hw''
    have X1 := R1.below (below_regrown W dq osq) R1.lt
    have X2 := R2.below (below_regrown W dq osq) R2.lt
    have X3 := R3.below (below_regrown W dq osq) R3.lt
    have HX := Lib.hid (hm.out dq osq)
    generalize Go.Sort.grow (redrawn W dq) osq = WX at *
    have x1 := X1.cell
    have x2 := X2.cell
    have x2f := X2.thaw
    have x3 := X3.cell
    clear z00 z01 z02 z10 z11 z30 z31 zc2 zc3 hm SK AT2 q110 R0 R1 R2 R3
    cases z
    all_goals
      go_wp2
      refine bodyPost_ret ?_ rfl ⟨rfl, ?_⟩
      · simp [results, Tryz.results76, go_sem, x2]
      · refine Below.setCell (Below.setCell HX.out ?_ _) ?_ _ <;> simp <;> omega
  · have d1 : decide ((i : Int) < (D.a.length : Int)) = false := by simpa using h1
    have d2 : decide (i < D.a.length) = false := by simpa using h1
    have d3 : (D.a.length : Int) ≤ (i : Int) := by omega
    have ei : IntKind.i64.wrap ((i : Int) + 1) = (i : Int) + 1 := by rw [IntKind.wrap_i64]; omega
    have ej : IntKind.i64.wrap ((j : Int) + 1) = (j : Int) + 1 := by rw [IntKind.wrap_i64]; omega
    have e1 : D.toOld i j = false := by unfold TD.toOld Dl.toOld; simp [h1]
    rw [e1]
    clear AT hr e1 h1
    go_enter Tryz.func76, Tryz.ntmps76
    go_wp2_with fail
    obtain ⟨g0, g1, g2, g3, _⟩ := new5 w (.cells #[.slice D.Aa D.a.length D.ca, .slice D.Ab D.b.length D.cb, D.fv] 90) (.cells #[.int .i64 i, .int .i64 j] 55) (.cells #[.int .i64 0, .int .i64 0] 55) (.cells #[.int .i64 ((i : Int) + 1), .int .i64 j] 55) (.cells #[] 0)
    have o4 : ∀ (u : World) (g : Nat) (o : Obj), (u.alloc (.cells #[] 0)).heap[g]? = some o → g < u.heap.size → u.heap[g]? = some o := fun u g o h hlt => (Below.heap_alloc u (.cells #[] 0) g hlt).symm.trans h
    have hB4 : Below w.heap.size w ((((w.alloc (.cells #[.slice D.Aa D.a.length D.ca, .slice D.Ab D.b.length D.cb, D.fv] 90)).alloc (.cells #[.int .i64 i, .int .i64 j] 55)).alloc (.cells #[.int .i64 0, .int .i64 0] 55)).alloc (.cells #[.int .i64 ((i : Int) + 1), .int .i64 j] 55)) := (bel3 _ _ _ _).alloc (by simp; omega) _
    have hS4 : ((((w.alloc (.cells #[.slice D.Aa D.a.length D.ca, .slice D.Ab D.b.length D.cb, D.fv] 90)).alloc (.cells #[.int .i64 i, .int .i64 j] 55)).alloc (.cells #[.int .i64 0, .int .i64 0] 55)).alloc (.cells #[.int .i64 ((i : Int) + 1), .int .i64 j] 55)).heap.size = w.heap.size + 4 := by simp
    generalize hW : ((((w.alloc (.cells #[.slice D.Aa D.a.length D.ca, .slice D.Ab D.b.length D.cb, D.fv] 90)).alloc (.cells #[.int .i64 i, .int .i64 j] 55)).alloc (.cells #[.int .i64 0, .int .i64 0] 55)).alloc (.cells #[.int .i64 ((i : Int) + 1), .int .i64 j] 55)) = W at *
    have R0 : RowB W w.heap.size 90 #[.slice D.Aa D.a.length D.ca, .slice D.Ab D.b.length D.cb, D.fv] := o4 W _ _ g0 (by omega)
    have R1 : RowB W (w.heap.size + 1) 55 #[.int .i64 i, .int .i64 j] := o4 W _ _ g1 (by omega)
    have R2 : RowB W (w.heap.size + 2) 55 #[.int .i64 0, .int .i64 0] := o4 W _ _ g2 (by omega)
    have R3 : RowB W (w.heap.size + 3) 55 #[.int .i64 ((i : Int) + 1), .int .i64 j] := o4 W _ _ g3 (by omega)
    clear g0 g1 g2 g3 o4 hW
    have z00 := fun d os => cell_regrown (R0.cell 0) d os
    have z01 := fun d os => cell_regrown (R0.cell 1) d os
    have z02 := fun d os => cell_regrown (R0.cell 2) d os
    have z10 := fun d os => cell_regrown (R1.cell 0) d os
    have z11 := fun d os => cell_regrown (R1.cell 1) d os
    have z30 := fun d os => cell_regrown (R3.cell 0) d os
    have z31 := fun d os => cell_regrown (R3.cell 1) d os
    have hm : Hid (∀ d os, Below w.heap.size w (Go.Sort.grow (redrawn W d) os)) := fun d os => hB4.trans ((below_regrown W d os).mono hB4.size)
    refine wp_region_quiet_below (by kernel_rfl) (by kernel_rfl) ?_
    repeat (go_big_quiet_step (first
      | (go_at_call 73; exact Calls.regrown_of (SK.out _ (hm.out _ _)))))
    refine wpQuiet_nil ?_
    intro _ hw'
    obtain ⟨⟨dq, osq⟩, hw''⟩ := hw'
    subst hw''
    have X1 := R1.below (below_regrown W dq osq) R1.lt
    have X2 := R2.below (below_regrown W dq osq) R2.lt
    have X3 := R3.below (below_regrown W dq osq) R3.lt
    have HX := Lib.hid (hm.out dq osq)
    generalize Go.Sort.grow (redrawn W dq) osq = WX at *
    have x1 := X1.cell
    have x2 := X2.cell
    have x2f := X2.thaw
    have x3 := X3.cell
    clear z00 z01 z02 z10 z11 z30 z31 hm SK R0 R1 R2 R3
    go_wp2
    refine bodyPost_ret ?_ rfl ⟨rfl, ?_⟩
    · simp [results, Tryz.results76, go_sem, x2]
    · refine Below.setCell (Below.setCell HX.out ?_ _) ?_ _ <;> simp <;> omega
end Go.Proofs.YthbmnnnlkgbieaaGreatDoor
