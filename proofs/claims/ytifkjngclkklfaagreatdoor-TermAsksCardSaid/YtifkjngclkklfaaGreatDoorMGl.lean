/- Contracts: a record's names with a part; a function's parameters, and what it answers. -/
import Derived.Test.YtifkjngclkklfaaGreatDoorMGi
import Derived.RegionTactic
import Derived.Test.YtifkjngclkklfaaGreatDoorMGk
import Derived.Test.YtifkjngclkklfaaGreatDoorMGf
import Derived.Laws.AppendOwn
import Derived.Maps.OwnSet
import Derived.Deep.AppendLies
import Derived.Test.YtifkjngclkklfaaGreatDoorMGj
import Derived.Test.YtifkjngclkklfaaGreatDoorMGc
import Derived.LaidLaws
import Derived.FnData
namespace Go.Proofs.YtifkjngclkklfaaGreatDoor
open Go.RowKit Go.Op
namespace Tm
set_option maxHeartbeats 2000000 in
set_option maxRecDepth 100000 in
theorem plabels_any (w : World) (k : Int) (An : Option Addr) (m cn : Nat) (A : Option Addr) (n c : Nat) (h : m = n) :
    Calls Tryz.prog 79 #[.agg #[.int .i64 k, .slice An m cn, .slice A n c]] w fun e w' => e = .returned (.int .i64 (n : Int)) ∧ Below w.heap.size w w' := by
  subst h
  have B0 := Lib.hid (bel1 w (.cells (tarr k An m cn A m c) 25))
  have R0 := Lib.hid (RowB.new w 25 (tarr k An m cn A m c))
  have rc := R0.out.cell
  go_enter Tryz.func79, Tryz.ntmps79
  go_wp2_with fail
  (first | go_ret | go_ret2)
  exact ⟨by first | rfl | simp, B0.out⟩

theorem below2_drew (w : World) (a b : Array Value) (t : TypeId) : Below w.heap.size w ((w.alloc (.cells a t)).alloc (.cells b t)).drew :=
  Below.drew ((bel1 w (.cells a t)).alloc (by simp) _)
/-- What split answers of a function. -/
def SplitQ (P : Nat → Prop) (t : Ty) (A : Option Addr) (m c : Nat) (w : World) (e : Ending) (w' : World) : Prop :=
  Below w.heap.size w w' ∧ ∃ An2 cn2 A2 c2, e = .returned (.tuple #[.slice A m c, tv t An2 cn2 A2 c2]) ∧ TI w' P t An2 cn2 A2 c2
set_option maxHeartbeats 4000000 in
set_option maxRecDepth 100000 in
theorem split_any (w : World) (k : Int) (An : Option Addr) (m cn : Nat) (ps : List Ty) (P : Nat → Prop) (A : Option Addr) (c : Nat) (h : TV w P ps A c) (h0 : 0 < ps.length) (hl : ps.length ≤ 1000001) :
    Calls Tryz.prog 80 #[.agg #[.int .i64 k, .slice An m cn, .slice A ps.length c]] w (SplitQ P (lastT ps) A (ps.length - 1) c w) := by
  obtain ⟨n, hn⟩ : ∃ n, ps.length = n + 1 := ⟨ps.length - 1, by omega⟩
  obtain ⟨t, ht⟩ : ∃ t, t = lastT ps := ⟨_, rfl⟩
  have e : ps[n]? = some t := by
    rw [ht, lastT_get h0, List.getElem?_eq_getElem (by omega)]
    simp [hn]
  rw [← ht, hn, Nat.add_sub_cancel]
  obtain ⟨p, hp⟩ : ∃ p, p = n + 1 := ⟨_, rfl⟩
  rw [← hp]
  have hcap : p ≤ c := by have := h.1; omega
  have hp1 : p ≤ 1000001 := by omega
  have b1 : Below w.heap.size w (w.alloc (.cells (tarr k An m cn A p c) 25)) := bel1 w _
  have b2 : Below (w.alloc (.cells (tarr k An m cn A p c) 25)).heap.size (w.alloc (.cells (tarr k An m cn A p c) 25)) _ := bel1 _ (.cells tzc 25)
  have HB0 := Lib.hid (b1.trans (b2.mono b1.size))
  have R1 := Lib.hid ((RowB.new w 25 (tarr k An m cn A p c)).alloc (.cells tzc 25))
  have R2 : Hid (RowB ((w.alloc (.cells (tarr k An m cn A p c) 25)).alloc (.cells tzc 25)) (w.heap.size + 1) 25 tzc) := by
    have := RowB.new (w.alloc (.cells (tarr k An m cn A p c) 25)) 25 tzc
    unfold Hid
    simpa using this
  obtain ⟨g, o, An2, cn2, A2, c2, hA, hP, hg, hti, v0, v1, v2⟩ := h.nth e
  have z0 := (HB0.out.cell (p := ⟨g, o + n * 3, none⟩) hg).trans v0
  have z1 := (HB0.out.cell (p := ⟨g, o + n * 3 + 1, none⟩) hg).trans v1
  have z2 := (HB0.out.cell (p := ⟨g, o + n * 3 + 2, none⟩) hg).trans v2
  have HTI := Lib.hid hti
  have HE : Hid (p = n + 1) := hp
  have q1 : IntKind.i64.wrap ((p : Int) - 1) = (n : Int) := by rw [IntKind.wrap_i64]; omega
  have q2 : ¬ (n : Int) < 0 := by omega
  have q3 : (n : Int) < (p : Int) := by omega
  have q4 : (n : Int) ≤ (c : Int) := by omega
  have q5 : (0 : Int) ≤ (n : Int) := by omega
  have r1 := R1.out.cell
  have r2 := R2.out.cell
  have r2t := R2.out.thaw
  subst hA
  obtain ⟨kt, nt, pt⟩ := t
  simp only [kind_mk, names_mk, parts_mk] at z0 z1 z2
  clear h h0 hl hn ht e hp b1 b2 hti v0 v1 v2 hP
  go_enter Tryz.func80, Tryz.ntmps80
  go_wp2_with fail
  go_region
  all_goals
    go_wp2_with fail
    refine bodyPost_ret (v := .tuple #[.slice (some ⟨g, o, none⟩) n c, .agg #[.int .i64 kt, .slice An2 nt.length cn2, .slice A2 pt.length c2]]) ?_ rfl ⟨below2_drew _ _ _ _, An2, cn2, A2, c2, rfl, HTI.out.below (below2_drew _ _ _ _)⟩
    have r3 := (RowB.new (w.alloc (.cells #[.int .i64 k, .slice An m cn, .slice (some ⟨g, o, none⟩) p c] 25)) 25 #[.int .i64 kt, .slice An2 nt.length cn2, .slice A2 pt.length c2])
    have r4 : RowB ((w.alloc (.cells #[.int .i64 k, .slice An m cn, .slice (some ⟨g, o, none⟩) p c] 25)).alloc (.cells #[.int .i64 kt, .slice An2 nt.length cn2, .slice A2 pt.length c2] 25)).drew (w.heap.size + 1) 25 #[.int .i64 kt, .slice An2 nt.length cn2, .slice A2 pt.length c2] := by
      rw [show (w.alloc (.cells #[.int .i64 k, .slice An m cn, .slice (some ⟨g, o, none⟩) p c] 25)).heap.size = w.heap.size + 1 by simp] at r3
      exact r3
    have r5 := r4.cell
    simp [results, Tryz.results80, go_sem, r5]
    try first | rfl | exact ⟨rfl, rfl⟩
end Tm
end Go.Proofs.YtifkjngclkklfaaGreatDoor
/- Mathematics: how many nodes stand beside one another. -/
namespace Go.Proofs.YtifkjngclkklfaaGreatDoor
namespace Ps
variable {l : List Tok}
/-- How many kids a node has, at most. -/
def Fo.wide : Fo → Nat
  | .nil => 0
  | .cons _ k r => max (max k.len k.wide) r.wide
theorem Fo.wide_one (h : Hd) (k : Fo) : (Fo.one h k).wide = max k.len k.wide := by simp [Fo.one, Fo.wide]
theorem Fo.wide_app : ∀ a b : Fo, (a.app b).wide = max a.wide b.wide
  | .nil, b => by simp [Fo.app, Fo.wide]
  | .cons h k r, b => by rw [Fo.app, Fo.wide, Fo.wide, Fo.wide_app r]; omega
theorem Fo.wide_zero : Fo.zero.wide = 0 := rfl
theorem Fo.len_zero : Fo.zero.len = 1 := rfl
theorem Fo.len_one (h : Hd) (k : Fo) : (Fo.one h k).len = 1 := rfl
def lT (f : Nat) : TT → Nat
  | .kind => 1
  | _ => f
def wL (f : Nat) : XT → Nat
  | .lambda => 3
  | .stmts | .args _ | .entries _ => f
  | .sumL a | .termL a | .postL a => max a.len 1
  | _ => 1
def wW (f : Nat) : XT → Nat
  | .sumL a | .termL a | .postL a => max (max a.wide (a.len + f)) (f + 3)
  | _ => f + 3
theorem ty_wide : ∀ (f : Nat) (t : TT) (b : Int) (i : Nat) (r : Fo × Nat × Int), tyM l f t b i = some r → (r.1.len ≤ lT f t ∧ r.1.wide ≤ f + 3) := by
  intro f
  induction f with
  | zero => intro t b i r h; rw [tyM] at h; cases h
  | succ f ih =>
    intro t b i r h
    cases t with
    | kind =>
      rw [tyM] at h
      split at h
      · injection h with h; rw [← h]; simp only [Fo.wide_zero, Fo.len_zero, lT] at *; omega
      · split at h
        · injection h with h; rw [← h]; simp only [Fo.wide_one, Fo.len_one, Fo.wide, Fo.len, lT] at *; omega
        · split at h
          · injection h with h; rw [← h]; simp only [Fo.wide_one, Fo.len_one, Fo.wide, Fo.len, lT] at *; omega
          · split at h
            · injection h with h; rw [← h]; simp only [Fo.wide_one, Fo.len_one, Fo.wide, Fo.len, lT] at *; omega
            · split at h
              · obtain ⟨x, hx, h⟩ := Option.bind_eq_some_iff.1 h
                have := ih _ _ _ _ hx
                injection h with h; rw [← h]; simp only [Fo.wide_one, Fo.len_one, lT] at *; omega
              · obtain ⟨x, hx, h⟩ := Option.bind_eq_some_iff.1 h
                obtain ⟨t, ht, h⟩ := Option.bind_eq_some_iff.1 h
                have := ih _ _ _ _ hx
                have := ih _ _ _ _ ht
                injection h with h; rw [← h]; simp only [Fo.wide_one, Fo.wide_app, Fo.len_app, Fo.len_one, lT] at *; omega
    | recL first =>
      rw [tyM] at h
      split at h
      · obtain ⟨t, ht, h⟩ := Option.bind_eq_some_iff.1 h
        have := ih _ _ _ _ ht
        split at h
        · injection h with h; rw [← h]; simp only [Fo.wide_one, Fo.len_one, lT] at *; omega
        · obtain ⟨x, hx, h⟩ := Option.map_eq_some_iff.1 h
          have := ih _ _ _ _ hx
          rw [← h]; simp only [Fo.wide_one, Fo.wide_app, Fo.len_app, Fo.len_one, lT] at *; omega
      · injection h with h; rw [← h]; simp only [Fo.wide, Fo.len, lT] at *; omega
    | fnL first =>
      rw [tyM] at h
      split at h
      · obtain ⟨t, ht, h⟩ := Option.bind_eq_some_iff.1 h
        have := ih _ _ _ _ ht
        split at h
        · injection h with h; rw [← h]; simp only [lT] at *; omega
        · obtain ⟨x, hx, h⟩ := Option.map_eq_some_iff.1 h
          have := ih _ _ _ _ hx
          rw [← h]; simp only [Fo.wide_app, Fo.len_app, lT] at *; omega
      · injection h with h; rw [← h]; simp only [Fo.wide, Fo.len, lT] at *; omega
theorem typed_wide {f : Nat} {b : Int} {i : Nat} {r : Fo × Nat × Int} (h : typedM l f b i = some r) : r.1.len ≤ 1 ∧ r.1.wide ≤ f + 3 := by
  unfold typedM at h
  split at h
  · injection h with h; rw [← h]; simp only [Fo.wide_zero, Fo.len_zero] at *; omega
  · have := ty_wide _ _ _ _ _ h; simp only [lT] at this; omega
theorem par_wide : ∀ (f : Nat) (first : Bool) (b : Int) (i : Nat) (r : Fo × Nat × Int), parL l f first b i = some r → (r.1.len ≤ f ∧ r.1.wide ≤ f + 3) := by
  intro f
  induction f with
  | zero => intro first b i r h; rw [parL] at h; cases h
  | succ f ih =>
    intro first b i r h
    rw [parL] at h
    split at h
    · obtain ⟨t, ht, h⟩ := Option.bind_eq_some_iff.1 h
      have := typed_wide ht
      split at h
      · injection h with h; rw [← h]; simp only [Fo.wide_one, Fo.len_one] at *; omega
      · obtain ⟨x, hx, h⟩ := Option.map_eq_some_iff.1 h
        have := ih _ _ _ _ hx
        rw [← h]; simp only [Fo.wide_one, Fo.wide_app, Fo.len_app, Fo.len_one] at *; omega
    · injection h with h; rw [← h]; simp only [Fo.wide, Fo.len] at *; omega
theorem params_wide {f : Nat} {b : Int} {i : Nat} {r : Fo × Nat × Int} (h : paramsM l f b i = some r) : r.1.len ≤ 1 ∧ r.1.wide ≤ f + 3 := by
  unfold paramsM at h
  obtain ⟨x, hx, h⟩ := Option.bind_eq_some_iff.1 h
  have := par_wide _ _ _ _ _ hx
  injection h with h; rw [← h]; simp only [Fo.wide_one, Fo.len_one] at *; omega
theorem ex_wide : ∀ (f : Nat) (t : XT) (b : Int) (i : Nat) (r : Fo × Nat × Int), exM l f t b i = some r → (r.1.len ≤ wL f t ∧ r.1.wide ≤ wW f t) := by
  intro f
  induction f with
  | zero => intro t b i r h; rw [exM] at h; cases h
  | succ f ih =>
    intro t b i r h
    cases t with
    | lambda =>
      rw [exM] at h
      obtain ⟨p, h1, h⟩ := Option.bind_eq_some_iff.1 h
      obtain ⟨t, h2, h⟩ := Option.bind_eq_some_iff.1 h
      obtain ⟨k, h3, h⟩ := Option.bind_eq_some_iff.1 h
      have := params_wide h1
      have := typed_wide h2
      have := ih _ _ _ _ h3
      injection h with h; rw [← h]; simp only [Fo.wide_app, Fo.len_app, wL, wW] at *; omega
    | block =>
      rw [exM] at h
      obtain ⟨x, h1, h⟩ := Option.bind_eq_some_iff.1 h
      have := ih _ _ _ _ h1
      injection h with h; rw [← h]; simp only [Fo.wide_one, Fo.len_one, wL, wW] at *; omega
    | stmts =>
      rw [exM] at h
      split at h
      · obtain ⟨x, h1, h⟩ := Option.bind_eq_some_iff.1 h
        obtain ⟨y, h2, h⟩ := Option.map_eq_some_iff.1 h
        have := ih _ _ _ _ h1
        have := ih _ _ _ _ h2
        rw [← h]; simp only [Fo.wide_app, Fo.len_app, wL, wW] at *; omega
      · injection h with h; rw [← h]; simp only [Fo.wide, Fo.len, wL, wW] at *; omega
    | stmt =>
      rw [exM] at h
      split at h
      · obtain ⟨c, h1, h⟩ := Option.bind_eq_some_iff.1 h
        obtain ⟨k, h2, h⟩ := Option.bind_eq_some_iff.1 h
        have := ih _ _ _ _ h1
        have := ih _ _ _ _ h2
        split at h
        · obtain ⟨o, h3, h⟩ := Option.bind_eq_some_iff.1 h
          have := ih _ _ _ _ h3
          injection h with h; rw [← h]; simp only [Fo.wide_one, Fo.wide_app, Fo.len_app, Fo.len_one, wL, wW] at *; omega
        · injection h with h; rw [← h]; simp only [Fo.wide_one, Fo.wide_app, Fo.wide_zero, Fo.len_app, Fo.len_one, Fo.len_zero, wL, wW] at *; omega
      · split at h
        · obtain ⟨c, h1, h⟩ := Option.bind_eq_some_iff.1 h
          obtain ⟨k, h2, h⟩ := Option.bind_eq_some_iff.1 h
          have := ih _ _ _ _ h1
          have := ih _ _ _ _ h2
          injection h with h; rw [← h]; simp only [Fo.wide_one, Fo.wide_app, Fo.len_app, Fo.len_one, wL, wW] at *; omega
        · split at h
          · obtain ⟨t, h1, h⟩ := Option.bind_eq_some_iff.1 h
            obtain ⟨v, h2, h⟩ := Option.bind_eq_some_iff.1 h
            have := typed_wide h1
            have := ih _ _ _ _ h2
            injection h with h; rw [← h]; simp only [Fo.wide_one, Fo.wide_app, Fo.len_app, Fo.len_one, wL, wW] at *; omega
          · obtain ⟨v, h2, h⟩ := Option.bind_eq_some_iff.1 h
            have := ih _ _ _ _ h2
            injection h with h; rw [← h]; simp only [Fo.wide_one, Fo.len_one, wL, wW] at *; omega
    | expr =>
      rw [exM] at h
      obtain ⟨a, h1, h⟩ := Option.bind_eq_some_iff.1 h
      have := ih _ _ _ _ h1
      split at h
      · injection h with h; rw [← h]; simp only [wL, wW] at *; omega
      · obtain ⟨c, h2, h⟩ := Option.bind_eq_some_iff.1 h
        have := ih _ _ _ _ h2
        injection h with h; rw [← h]; simp only [Fo.wide_one, Fo.wide_app, Fo.len_app, Fo.len_one, wL, wW] at *; omega
    | sum =>
      rw [exM] at h
      obtain ⟨a, h1, h⟩ := Option.bind_eq_some_iff.1 h
      have := ih _ _ _ _ h1
      have := ih _ _ _ _ h
      simp only [wL, wW] at *; omega
    | term =>
      rw [exM] at h
      obtain ⟨a, h1, h⟩ := Option.bind_eq_some_iff.1 h
      have := ih _ _ _ _ h1
      have := ih _ _ _ _ h
      simp only [wL, wW] at *; omega
    | post =>
      rw [exM] at h
      obtain ⟨a, h1, h⟩ := Option.bind_eq_some_iff.1 h
      have := ih _ _ _ _ h1
      have := ih _ _ _ _ h
      simp only [wL, wW] at *; omega
    | sumL a =>
      rw [exM] at h
      split at h
      · obtain ⟨c, h1, h⟩ := Option.bind_eq_some_iff.1 h
        have := ih _ _ _ _ h1
        have := ih _ _ _ _ h
        simp only [Fo.wide_one, Fo.wide_app, Fo.len_app, Fo.len_one, wL, wW] at *; omega
      · injection h with h; rw [← h]; simp only [wL, wW] at *; omega
    | termL a =>
      rw [exM] at h
      split at h
      · obtain ⟨c, h1, h⟩ := Option.bind_eq_some_iff.1 h
        have := ih _ _ _ _ h1
        have := ih _ _ _ _ h
        simp only [Fo.wide_one, Fo.wide_app, Fo.len_app, Fo.len_one, wL, wW] at *; omega
      · injection h with h; rw [← h]; simp only [wL, wW] at *; omega
    | postL a =>
      rw [exM] at h
      split at h
      · split at h
        · have := ih _ _ _ _ h
          simp only [Fo.wide_one, Fo.len_one, wL, wW] at *; omega
        · obtain ⟨k, h1, h⟩ := Option.bind_eq_some_iff.1 h
          have := ih _ _ _ _ h1
          have := ih _ _ _ _ h
          simp only [Fo.wide_one, Fo.wide_app, Fo.len_app, Fo.len_one, wL, wW] at *; omega
      · injection h with h; rw [← h]; simp only [wL, wW] at *; omega
    | args first =>
      rw [exM] at h
      split at h
      · obtain ⟨t, h1, h⟩ := Option.bind_eq_some_iff.1 h
        have := ih _ _ _ _ h1
        split at h
        · injection h with h; rw [← h]; simp only [wL, wW] at *; omega
        · obtain ⟨y, h2, h⟩ := Option.map_eq_some_iff.1 h
          have := ih _ _ _ _ h2
          rw [← h]; simp only [Fo.wide_app, Fo.len_app, wL, wW] at *; omega
      · injection h with h; rw [← h]; simp only [Fo.wide, Fo.len, wL, wW] at *; omega
    | atom =>
      rw [exM] at h
      split at h
      · injection h with h; rw [← h]; simp only [Fo.wide_zero, Fo.len_zero, wL, wW] at *; omega
      · split at h
        · injection h with h; rw [← h]; simp only [Fo.wide_one, Fo.len_one, Fo.wide, Fo.len, wL, wW] at *; omega
        · split at h
          · injection h with h; rw [← h]; simp only [Fo.wide_one, Fo.len_one, Fo.wide, Fo.len, wL, wW] at *; omega
          · split at h
            · injection h with h; rw [← h]; simp only [Fo.wide_one, Fo.len_one, Fo.wide, Fo.len, wL, wW] at *; omega
            · split at h
              · injection h with h; rw [← h]; simp only [Fo.wide_one, Fo.len_one, Fo.wide, Fo.len, wL, wW] at *; omega
              · split at h
                · obtain ⟨x, h1, h⟩ := Option.bind_eq_some_iff.1 h
                  have := ih _ _ _ _ h1
                  injection h with h; rw [← h]; simp only [Fo.wide_one, Fo.len_one, wL, wW] at *; omega
                · split at h
                  · obtain ⟨x, h1, h⟩ := Option.bind_eq_some_iff.1 h
                    have := ih _ _ _ _ h1
                    injection h with h; rw [← h]; simp only [Fo.wide_one, Fo.len_one, wL, wW] at *; omega
                  · obtain ⟨x, h1, h⟩ := Option.bind_eq_some_iff.1 h
                    have := ih _ _ _ _ h1
                    injection h with h; rw [← h]; simp only [Fo.wide_one, Fo.len_one, wL, wW] at *; omega
    | entries first =>
      rw [exM] at h
      split at h
      · obtain ⟨t, h1, h⟩ := Option.bind_eq_some_iff.1 h
        have := ih _ _ _ _ h1
        split at h
        · injection h with h; rw [← h]; simp only [Fo.wide_one, Fo.len_one, wL, wW] at *; omega
        · obtain ⟨y, h2, h⟩ := Option.map_eq_some_iff.1 h
          have := ih _ _ _ _ h2
          rw [← h]; simp only [Fo.wide_one, Fo.wide_app, Fo.len_app, Fo.len_one, wL, wW] at *; omega
      · injection h with h; rw [← h]; simp only [Fo.wide, Fo.len, wL, wW] at *; omega
theorem items_wide : ∀ (f g : Nat) (b : Int) (i : Nat) (r : Fo × Nat × Int), f ≤ g → itemsM l f b i = some r → (r.1.len ≤ f ∧ r.1.wide ≤ g + 3) := by
  intro f
  induction f with
  | zero => intro g b i r _ h; rw [itemsM] at h; cases h
  | succ f ih =>
    intro g b i r hf h
    rw [itemsM] at h
    split at h
    · split at h
      · obtain ⟨x, h1, h⟩ := Option.map_eq_some_iff.1 h
        have := ih g _ _ _ (by omega) h1
        have hu : (useM l b i).1.len = 1 ∧ (useM l b i).1.wide = 1 := by unfold useM; simp only [Fo.wide_one, Fo.wide, Fo.len_one, Fo.len]; exact ⟨trivial, rfl⟩
        rw [← h]; simp only [Fo.wide_app, Fo.len_app, hu.1, hu.2]; omega
      · obtain ⟨t, h1, h⟩ := Option.bind_eq_some_iff.1 h
        obtain ⟨x, h2, h⟩ := Option.map_eq_some_iff.1 h
        have := ih g _ _ _ (by omega) h2
        have hd : t.1.len = 1 ∧ t.1.wide ≤ f + 3 := by
          unfold defM at h1
          obtain ⟨k, h3, h1⟩ := Option.bind_eq_some_iff.1 h1
          have := ex_wide _ _ _ _ _ h3
          simp only [wL, wW] at this
          injection h1 with h1; rw [← h1]; refine ⟨rfl, ?_⟩; simp only [Fo.wide_one]; omega
        rw [← h]; simp only [Fo.wide_app, Fo.len_app]; omega
    · injection h with h; rw [← h]; simp only [Fo.wide, Fo.len]; omega
theorem items_wide' {r : Fo × Nat × Int} (h : itemsM l fuel (-1) 0 = some r) : r.1.len ≤ 1000000 ∧ r.1.wide ≤ 1000000 := by
  have h1 := items_wide fuel fuel (-1) 0 r (Nat.le_refl _) h
  unfold fuel at *
  omega
theorem ty_wide' {r : Fo × Nat × Int} (h : tyM l fuel .kind (-1) 0 = some r) : r.1.len ≤ 1 ∧ r.1.wide ≤ 1000000 := by
  have h1 := ty_wide fuel .kind (-1) 0 r h
  simp only [lT] at h1
  unfold fuel at *
  omega
end Ps
end Go.Proofs.YtifkjngclkklfaaGreatDoor
/- Where an append lays its row. -/
namespace Go.Proofs.YtifkjngclkklfaaGreatDoor
open Go.RowKit

/-- Where an append lays its row: where it lay, or in a new block. -/
theorem append_at {w : World} {P : Program} (base : Nat) (t ty e : TypeId) (i : TypeInfo) (z : Value) (ht : P.underlying t = some (.slice e)) (hi : P.info? e = some i) (hz : i.zero = some z) (hzs : z.cells.size = i.size) (hsz : 0 < i.size)
    (v : Value) (n : Nat) (xs : List Value) (hown : w.ownsRow base e i.size v n xs)
    (a : Addr) (m c : Nat) (news : List Value) (hl : news.length = m * i.size) (hnews : ∀ j u, news[j]? = some u → w.cell? (a.add j) = some u) (h1 : ∀ u ∈ news, u.oneCell' = true)
    (h63 : n + m ≤ maxLen) (hbytes : (n + m) * i.bytes ≤ 140737488355328) (v' : Value) (w' : World)
    (hr : (Builtin.append_ #[t, t] ty #[v, .slice (some a) m c]).run P w = .ok v' w') : ∀ k, v'.ownBlock = some k → v.ownBlock = some k ∨ w.heap.size ≤ k := by
  intro k hk
  have hsmall : n + m ≤ 9223372036854775807 := by simp only [maxLen] at h63; omega
  rcases hown.2 with ⟨rfl, rfl⟩ | ⟨g, cap, cur, rfl, hbg, hg, hnc, hcm, hcs, htake⟩
  · have hx : xs = [] := List.eq_nil_of_length_eq_zero (by simpa using hown.1)
    subst hx
    obtain ⟨v2, w2, h2, h3, _, _⟩ := run_append_own (P := P) w w.heap.size t ty e i z i.size i.bytes ht hi hz rfl rfl hzs hsz (.slice none 0 0) 0 [] (World.ownsRow_nil w w.heap.size e i.size) a m c news hl hnews h1 h63 hbytes (Nat.le_refl _)
    rw [hr] at h2
    injection h2 with e1 e2
    subst e1 e2
    exact .inr (h3.lt k hk).1
  · by_cases hroom : n + m ≤ cap
    · have hfit : n * i.size + news.length ≤ cur.size := by rw [hl, hcs, ← Nat.add_mul]; exact Nat.mul_le_mul_right _ hroom
      have h2 := run_append_room (P := P) w t ty e i ht hi g n cap cur hg a m c news hl hnews h1 hroom hfit
      rw [hr] at h2
      injection h2 with e1 e2
      rw [e1] at hk
      left
      exact hk
    · have holds : ∀ j u, xs[j]? = some u → w.cell? ((⟨g, 0, none⟩ : Addr).add j) = some u := hown.cells (g := g) rfl
      have h2 := run_append_grow (P := P) w t ty e i z ht hi hz ⟨g, 0, none⟩ n cap xs hown.1 holds a m c news hl hnews (by omega) (by omega) (growslice_fits (by omega) hbytes)
      rw [hr] at h2
      injection h2 with e1 e2
      rw [e1] at hk
      simp [Value.ownBlock] at hk
      omega
theorem wpList_append_at {w : World} {P : Program} {ops : Array Oper} {rest : List Oper} {o : Oper} {a : Act} {Q : Exit → Act → World → Prop} (hgd : o.guard = none) (s x : Operand) (t : TypeId)
    (ho : o.op = .call { callee := .builtin .append, args := #[s, x], argTypes := #[t, t] })
    (base : Nat) (e : TypeId) (i : TypeInfo) (z : Value) (size bytes : Nat) (ht : P.underlying t = some (.slice e)) (hi : P.info? e = some i) (hz : i.zero = some z)
    (hsize : i.size = size) (hby : i.bytes = bytes) (hzs : z.cells.size = size) (hsz : 0 < size)
    (v : Value) (n : Nat) (xs : List Value) (hs : a.eval s = v) (hown : w.ownsRow base e size v n xs)
    (ad : Addr) (m c : Nat) (news : List Value) (hx : a.eval x = .slice (some ad) m c) (hl : news.length = m * size) (hnews : ∀ j u, news[j]? = some u → w.cell? (ad.add j) = some u) (h1 : ∀ u ∈ news, u.oneCell' = true)
    (h63 : n + m ≤ maxLen) (hbytes : (n + m) * bytes ≤ 140737488355328) (hbase : base ≤ w.heap.size)
    (h : ∀ v' w', w'.ownsRow base e size v' (n + m) (xs ++ news) → w.grownBy w' v.ownBlock → (∀ k, v'.ownBlock = some k → v.ownBlock = some k ∨ w.heap.size ≤ k) → wpList P ops Q rest (a.put o.dst v') w') : wpList P ops Q (o :: rest) a w := by
  refine wpList_plain hgd fun K hK => ?_
  obtain ⟨v', w', hr, h2, h3, h4⟩ := run_append_own (P := P) w base t o.type e i z size bytes ht hi hz hsize hby hzs hsz v n xs hown ad m c news hl hnews h1 h63 hbytes hbase
  subst hsize hby
  have h5 := append_at base t o.type e i z ht hi hz hzs hsz v n xs hown ad m c news hl hnews h1 h63 hbytes v' w' hr
  unfold Oper.wp execOp
  simp only [ho, resolve, invoke, builtin, Sem.run_bind, Sem.run_pure, Result.andThen_ok, List.map_toArray, List.map_cons, List.map_nil, hs, hx, hr]
  exact hK _ _ (h v' w' h2 h3 h5)

namespace Ps
theorem KV.new_ {w : World} {P : Nat → Prop} {k : Fo} {A : Option Addr} {cap lo : Nat} (h : KV w P k A cap) (hP : ∀ g, P g → lo ≤ g) : KV w (fun g => lo ≤ g) k A cap := h.keep (Nat.le_refl _) (fun g hg _ => ⟨rfl, hP g hg⟩)
theorem six {c : Array Value} (hc : c.size = 6) (u0 u1 u2 u3 u4 u5 : Value) : (((((c.setIfInBounds 0 u0).setIfInBounds 1 u1).setIfInBounds 2 u2).setIfInBounds 3 u3).setIfInBounds 4 u4).setIfInBounds 5 u5 = #[u0, u1, u2, u3, u4, u5] := by
  obtain ⟨l⟩ := c
  match l, hc with
  | [_, _, _, _, _, _], _ => rfl
theorem cells_nd (w : World) (a b c d e f : Value) (j : Nat) (u : Value) (hj : [a, b, c, d, e, f][j]? = some u) : (w.alloc (.cells #[a, b, c, d, e, f] 71)).cell? ((⟨w.heap.size, 0, none⟩ : Addr).add j) = some u :=
  World.news_of_block (heap_alloc_new w (.cells #[a, b, c, d, e, f] 71)) j u hj
theorem one_nd (h : Hd) (A : Option Addr) (n c : Nat) : ∀ u ∈ [Value.int .i64 h.kind, .int .i64 h.fro, .int .i64 h.til, .string h.word, .int .i64 h.at_, .slice A n c], u.oneCell' = true := by
  simp [Value.oneCell']
theorem info25 : (Tryz.prog.info? 71).map (fun i => (i.zero, i.size, i.bytes)) = some (some (.agg #[.int .i64 0, .int .i64 0, .int .i64 0, .string ⟨#[]⟩, .int .i64 0, .slice none 0 0]), 6, 72) := by kernel_rfl
end Ps
end Go.Proofs.YtifkjngclkklfaaGreatDoor
/- What a call of the program's reader holds while it goes on: the reader, blocks of its own, nodes, a list of kids. -/
namespace Go.Proofs.YtifkjngclkklfaaGreatDoor
open Go.RowKit

namespace Pg
open Ps
abbrev Row := Nat × TypeId × Array Value
abbrev Kid := Fo × Option Addr × Nat
/-- Blocks that nodes may lie in: new ones, none of the rows, not the list that grows. -/
def PB (lo : Nat) (Rs : List Row) (v : Value) (g : Nat) : Prop := lo ≤ g ∧ (∀ p ∈ Rs, p.1 ≠ g) ∧ v.ownBlock ≠ some g
structure LS (X : Cx) (w0 w : World) (b : Sd) (Rs : List Row) (Ks : List Kid) (v : Value) (K : Fo) : Prop where
  st : PSt X w b
  fr : Fr X.rb w0.heap.size w0 w
  rows : ∀ p ∈ Rs, RowB w p.1 p.2.1 p.2.2 ∧ w0.heap.size ≤ p.1
  nd : (Rs.map Prod.fst).Nodup
  kvs : ∀ k ∈ Ks, KV w (PB w0.heap.size Rs v) k.1 k.2.1 k.2.2
  own : ∃ cs, w.ownsRow w0.heap.size 71 6 v K.len cs ∧ FC w (PB w0.heap.size Rs v) K cs
  ownr : ∀ p ∈ Rs, v.ownBlock ≠ some p.1
  rb : X.rb < w0.heap.size
variable {X : Cx} {w0 w w' : World} {b : Sd} {Rs : List Row} {Ks : List Kid} {v : Value} {K : Fo}
theorem LS.start (h : PSt X w b) : LS X w w b [] [] (.slice none 0 0) .nil :=
  ⟨h, Fr.refl _ _ _, (by simp), (by simp), (by simp), ⟨[], World.ownsRow_nil _ _ _ _, by rw [FC]⟩, (by simp), h.row.lt⟩
theorem LS.size (h : LS X w0 w b Rs Ks v K) : w0.heap.size ≤ w.heap.size := h.fr.size
/-- Behind what turns no block of this call's. -/
theorem LS.step (h : LS X w0 w b Rs Ks v K) {b' : Sd} (hS : PSt X w' b') (hF : Fr X.rb w.heap.size w w') : LS X w0 w' b' Rs Ks v K := by
  have hrb := h.rb
  have hb : ∀ g, PB w0.heap.size Rs v g → g < w.heap.size → w'.heap[g]? = w.heap[g]? ∧ PB w0.heap.size Rs v g := fun g hg hl => ⟨hF.block g hl (by have := hg.1; omega), hg⟩
  refine ⟨hS, h.fr.trans (hF.mono h.size), fun p hp => ?_, h.nd, fun k hk => (h.kvs k hk).keep hF.size hb, ?_, h.ownr, hrb⟩
  · obtain ⟨r1, r2⟩ := h.rows p hp
    exact ⟨hF.row r1 r1.lt (by omega), r2⟩
  · obtain ⟨cs, o1, o2⟩ := h.own
    exact ⟨cs, hF.own o1 hrb, o2.keep hF.size hb⟩
/-- Behind a block that is nobody's. -/
theorem LS.other (h : LS X w0 w b Rs Ks v K) (hb : Below w.heap.size w w') : LS X w0 w' b Rs Ks v K := h.step (h.st.below hb) (.of hb)
/-- A block of its own. -/
theorem LS.alloc (h : LS X w0 w b Rs Ks v K) (g0 : Nat) (hg0 : g0 = w.heap.size) (t : TypeId) (c : Array Value) : LS X w0 (w.alloc (.cells c t)) b ((g0, t, c) :: Rs) Ks v K := by
  subst hg0
  have h' := h.other (bel1 w (.cells c t))
  have hsz := h.size
  have hlt : ∀ p ∈ Rs, p.1 < w.heap.size := fun p hp => (h.rows p hp).1.lt
  have hP : ∀ g, PB w0.heap.size Rs v g → g < w.heap.size → PB w0.heap.size ((w.heap.size, t, c) :: Rs) v g := fun g hg hl => ⟨hg.1, fun p hp => by
    rcases List.mem_cons.1 hp with rfl | hp
    · exact Nat.ne_of_gt hl
    · exact hg.2.1 p hp, hg.2.2⟩
  have hbk : ∀ g, PB w0.heap.size Rs v g → g < w.heap.size → (w.alloc (.cells c t)).heap[g]? = w.heap[g]? ∧ PB w0.heap.size ((w.heap.size, t, c) :: Rs) v g := fun g hg hl => ⟨Below.heap_alloc _ _ _ hl, hP g hg hl⟩
  refine ⟨h'.st, h'.fr, fun p hp => ?_, ?_, fun k hk => (h.kvs k hk).keep (by simp) hbk, ?_, fun p hp => ?_, h.rb⟩
  · rcases List.mem_cons.1 hp with rfl | hp
    · exact ⟨RowB.new w t c, hsz⟩
    · exact h'.rows p hp
  · rw [List.map_cons, List.nodup_cons]
    refine ⟨fun hm => ?_, h.nd⟩
    obtain ⟨p, hp, e⟩ := List.mem_map.1 hm
    have := hlt p hp
    dsimp only at e
    omega
  · obtain ⟨cs, o1, o2⟩ := h.own
    exact ⟨cs, o1.alloc _, o2.keep (by simp) hbk⟩
  · rcases List.mem_cons.1 hp with rfl | hp
    · intro e
      obtain ⟨cs, o1, _⟩ := h.own
      have := (o1.lt _ e).2
      dsimp only at this
      omega
    · exact h.ownr p hp
/-- Nodes that are new. -/
theorem LS.kid (h : LS X w0 w b Rs Ks v K) {b' : Sd} (hS : PSt X w' b') (hF : Fr X.rb w.heap.size w w') {k : Fo} {A : Option Addr} {cap : Nat} (hk : KV w' (fun g => w.heap.size ≤ g) k A cap) : LS X w0 w' b' Rs ((k, A, cap) :: Ks) v K := by
  have h' := h.step hS hF
  have hsz := h.size
  refine ⟨h'.st, h'.fr, h'.rows, h'.nd, fun x hx => ?_, h'.own, h'.ownr, h'.rb⟩
  rcases List.mem_cons.1 hx with rfl | hx
  · refine hk.keep (Nat.le_refl _) (fun g hg _ => ⟨rfl, by omega, fun p hp e => ?_, fun e => ?_⟩)
    · have := (h.rows p hp).1.lt; omega
    · obtain ⟨cs, o1, _⟩ := h.own
      have := (o1.lt _ e).2
      omega
  · exact h'.kvs x hx
/-- Nodes laid beside one another in a new block. -/
theorem LS.slice (h : LS X w0 w b Rs Ks v K) (g0 : Nat) (hg0 : g0 = w.heap.size) {k : Fo} {cs : Array Value} (hf : FC w (PB w0.heap.size Rs v) k cs.toList) : LS X w0 (w.alloc (.cells cs 71)) b Rs ((k, some ⟨g0, 0, none⟩, k.len) :: Ks) v K := by
  subst hg0
  have h' := h.other (bel1 w (.cells cs 71))
  have hsz := h.size
  refine ⟨h'.st, h'.fr, h'.rows, h'.nd, fun x hx => ?_, h'.own, h'.ownr, h'.rb⟩
  rcases List.mem_cons.1 hx with rfl | hx
  · refine KV.new (RowB.new w 71 cs) (hf.keep (by simp) (fun g hg hl => ⟨Below.heap_alloc _ _ _ hl, hg⟩)) ⟨hsz, fun p hp e => ?_, fun e => ?_⟩
    · have := (h.rows p hp).1.lt; omega
    · obtain ⟨cs', o1, _⟩ := h.own
      have := (o1.lt _ e).2
      omega
  · exact h'.kvs x hx
/-- A store into a block of its own. -/
theorem LS.set (h : LS X w0 w b Rs Ks v K) (n : Nat) {g : Nat} {t : TypeId} {c : Array Value} (hn : Rs[n]? = some (g, t, c)) (i : Nat) (u : Value) : LS X w0 (w.setCell ⟨g, i, none⟩ u) b (Rs.set n (g, t, c.setIfInBounds i u)) Ks v K := by
  have hrb := h.rb
  obtain ⟨hlt, hg⟩ := List.getElem?_eq_some_iff.1 hn
  obtain ⟨r1, r2⟩ := h.rows (g, t, c) (by rw [← hg]; exact List.getElem_mem hlt)
  dsimp only at r1 r2
  have hfst : (Rs.set n (g, t, c.setIfInBounds i u)).map Prod.fst = Rs.map Prod.fst := by
    rw [List.map_set]
    apply List.ext_getElem (by simp)
    intro j h1 h2
    rw [List.getElem_set]
    split
    · rename_i e; subst e; simp [hg]
    · rfl
  have hmem : ∀ p ∈ Rs.set n (g, t, c.setIfInBounds i u), ∃ q ∈ Rs, q.1 = p.1 := fun p hp => by
    have : p.1 ∈ (Rs.set n (g, t, c.setIfInBounds i u)).map Prod.fst := List.mem_map_of_mem hp
    rw [hfst] at this
    exact List.mem_map.1 this
  have hgm : (g, t, c) ∈ Rs := by rw [← hg]; exact List.getElem_mem hlt
  have hP : ∀ g', PB w0.heap.size Rs v g' → g' < w.heap.size → (w.setCell ⟨g, i, none⟩ u).heap[g']? = w.heap[g']? ∧ PB w0.heap.size (Rs.set n (g, t, c.setIfInBounds i u)) v g' := fun g' hg' _ => by
    refine ⟨Below.heap_setCell _ _ _ _ (fun e => hg'.2.1 _ hgm e.symm), hg'.1, fun p hp => ?_, hg'.2.2⟩
    obtain ⟨q, hq, e⟩ := hmem p hp
    rw [← e]; exact hg'.2.1 q hq
  refine ⟨h.st.far (by dsimp only; omega) u, h.fr.setCell (by dsimp only; omega) u, fun p hp => ?_, by rw [hfst]; exact h.nd, fun k hk => (h.kvs k hk).keep (by simp [World.setCell]) hP, ?_, fun p hp => ?_, hrb⟩
  · obtain ⟨j, hj, rfl⟩ := List.getElem_of_mem hp
    have hj' : j < Rs.length := by simpa using hj
    rw [List.getElem_set]
    split
    · exact ⟨r1.put i u, r2⟩
    · rename_i ej
      obtain ⟨q1, q2⟩ := h.rows _ (List.getElem_mem hj')
      refine ⟨q1.far (fun e => ?_) u, q2⟩
      have hnd := List.pairwise_iff_getElem.1 h.nd
      dsimp only at e
      rcases Nat.lt_or_gt_of_ne ej with h1 | h1
      · have := hnd n j (by simpa using hlt) (by simpa using hj') h1
        simp [hg, e] at this
      · have := hnd j n (by simpa using hj') (by simpa using hlt) h1
        simp [hg, e] at this
  · obtain ⟨cs, o1, o2⟩ := h.own
    exact ⟨cs, ownsRow_setCell_other o1 (a := ⟨g, i, none⟩) (h.ownr _ hgm) u, o2.keep (by simp [World.setCell]) hP⟩
  · obtain ⟨q, hq, e⟩ := hmem p hp
    rw [← e]; exact h.ownr q hq
/-- A node is laid behind the others of the list. -/
theorem LS.push (h : LS X w0 w b Rs Ks v K) {v' : Value} {k : Fo} {news cs : List Value} (hc : w.ownsRow w0.heap.size 71 6 v K.len cs ∧ FC w (PB w0.heap.size Rs v) K cs) (hf : FC w (PB w0.heap.size Rs v) k news) (hown : w'.ownsRow w0.heap.size 71 6 v' (K.len + k.len) (cs ++ news)) (hg : w.grownBy w' v.ownBlock) (hat : ∀ j, v'.ownBlock = some j → v.ownBlock = some j ∨ w.heap.size ≤ j) : LS X w0 w' b Rs Ks v' (K.app k) := by
  have hrb := h.rb
  have hlt := hc.1.lt
  have hP : ∀ g, PB w0.heap.size Rs v g → g < w.heap.size → w'.heap[g]? = w.heap[g]? ∧ PB w0.heap.size Rs v' g := fun g hp hl => by
    refine ⟨hg.block g hl (fun e => hp.2.2 e.symm), hp.1, hp.2.1, fun e => ?_⟩
    rcases hat g e with e | e
    · exact hp.2.2 e
    · omega
  refine ⟨h.st.grown hg (fun j e => ?_), h.fr.grown hg h.size (fun j e => (hlt j e).1), fun p hp => ?_, h.nd, fun x hx => (h.kvs x hx).keep hg.size hP, ⟨cs ++ news, ?_, FC.app K cs (hc.2.keep hg.size hP) (hf.keep hg.size hP)⟩, fun p hp e => ?_, hrb⟩
  · have := (hlt j e).1; omega
  · obtain ⟨r1, r2⟩ := h.rows p hp
    exact ⟨r1.grown hg (fun e => h.ownr p hp e.symm), r2⟩
  · rw [Fo.len_app]; exact hown
  · rcases hat _ e with e | e
    · exact h.ownr p hp e
    · have := (h.rows p hp).1.lt
      omega
/-- The list, as nodes of one's own. -/
theorem LS.list (h : LS X w0 w b Rs Ks v K) : ∃ A cap, v = .slice A K.len cap ∧ K.len ≤ cap ∧ KV w (fun g => w0.heap.size ≤ g) K A cap := by
  obtain ⟨cs, o1, o2⟩ := h.own
  have hv : ∃ A cap, v = .slice A K.len cap ∧ K.len ≤ cap := by
    rcases o1.2 with ⟨rfl, e⟩ | ⟨g, cap, cur, rfl, _, _, hc, _⟩
    · exact ⟨none, 0, by rw [e], by omega⟩
    · exact ⟨_, cap, rfl, hc⟩
  obtain ⟨A, cap, rfl, hc⟩ := hv
  exact ⟨A, cap, rfl, hc, KV.of_own o1 rfl o2 (fun g hg => hg.1) (fun g hg _ => hg) hc⟩
theorem LS.listP (h : LS X w0 w b Rs Ks v K) : ∃ A cap, v = .slice A K.len cap ∧ K.len ≤ cap ∧ KV w (fun g => w0.heap.size ≤ g ∧ ∀ p ∈ Rs, p.1 ≠ g) K A cap := by
  obtain ⟨A, cap, rfl, hc, _⟩ := h.list
  obtain ⟨cs, o1, o2⟩ := h.own
  exact ⟨A, cap, rfl, hc, KV.of_own o1 rfl o2 (fun g hg => ⟨hg.1, hg.2.1⟩) (fun g hg e => ⟨hg, fun p hp e2 => h.ownr p hp (by rw [e2]; exact e)⟩) hc⟩
/-- A list begins anew. -/
theorem LS.fresh (h : LS X w0 w b Rs Ks v K) : LS X w0 w b Rs Ks (.slice none 0 0) .nil :=
  ⟨h.st, h.fr, h.rows, h.nd, fun k hk => (h.kvs k hk).keep (Nat.le_refl _) (fun g hg _ => ⟨rfl, hg.1, hg.2.1, by simp [Value.ownBlock]⟩), ⟨[], World.ownsRow_nil _ _ _ _, by rw [FC]⟩, fun p _ => by simp [Value.ownBlock], h.rb⟩
theorem LS.row (h : LS X w0 w b Rs Ks v K) (n : Nat) {g : Nat} {t : TypeId} {c : Array Value} (hn : Rs[n]? = some (g, t, c)) : RowB w g t c := by
  obtain ⟨hlt, hg⟩ := List.getElem?_eq_some_iff.1 hn
  exact (h.rows (g, t, c) (by rw [← hg]; exact List.getElem_mem hlt)).1
theorem LS.kidP (h : LS X w0 w b Rs Ks v K) (n : Nat) {k : Fo} {A : Option Addr} {cap : Nat} (hn : Ks[n]? = some (k, A, cap)) : KV w (PB w0.heap.size Rs v) k A cap := by
  obtain ⟨hlt, hg⟩ := List.getElem?_eq_some_iff.1 hn
  exact h.kvs (k, A, cap) (by rw [← hg]; exact List.getElem_mem hlt)
theorem LS.put6 (h : LS X w0 w b Rs Ks v K) (n : Nat) {g : Nat} {t : TypeId} {c : Array Value} (hn : Rs[n]? = some (g, t, c)) (hc : c.size = 6) (u0 u1 u2 u3 u4 u5 : Value) :
    LS X w0 ((((((w.setCell ⟨g, 0, none⟩ u0).setCell ⟨g, 1, none⟩ u1).setCell ⟨g, 2, none⟩ u2).setCell ⟨g, 3, none⟩ u3).setCell ⟨g, 4, none⟩ u4).setCell ⟨g, 5, none⟩ u5) b (Rs.set n (g, t, #[u0, u1, u2, u3, u4, u5])) Ks v K := by
  have hlt : n < Rs.length := (List.getElem?_eq_some_iff.1 hn).1
  have key : ∀ (l : List Row) (x : Row), l.length = Rs.length → (l.set n x)[n]? = some x := fun l x hl => by rw [List.getElem?_set_self (by omega)]
  have h1 := h.set n hn 0 u0
  have h2 := h1.set n (key _ _ (by simp)) 1 u1
  have h3 := h2.set n (key _ _ (by simp)) 2 u2
  have h4 := h3.set n (key _ _ (by simp)) 3 u3
  have h5 := h4.set n (key _ _ (by simp)) 4 u4
  have h6 := h5.set n (key _ _ (by simp)) 5 u5
  simp only [List.set_set] at h6
  rwa [six hc] at h6
/-- A list begins with nodes that are laid. -/
theorem LS.lit (h : LS X w0 w b Rs Ks v K) {k : Fo} {cs : Array Value} (hf : FC w (PB w0.heap.size Rs (.slice none 0 0)) k cs.toList) (g0 : Nat) (hg0 : g0 = w.heap.size) (hm : k.len ≤ maxLen) : LS X w0 (w.alloc (.cells cs 71)) b Rs Ks (.slice (some ⟨g0, 0, none⟩) k.len k.len) k := by
  subst hg0
  have h' := h.fresh.other (bel1 w (.cells cs 71))
  have hsz := h.size
  have hkl := hf.len
  have hbk : ∀ g, PB w0.heap.size Rs (.slice none 0 0) g → g < w.heap.size → (w.alloc (.cells cs 71)).heap[g]? = w.heap[g]? ∧ PB w0.heap.size Rs (.slice (some ⟨w.heap.size, 0, none⟩) k.len k.len) g := fun g hg hl => ⟨Below.heap_alloc _ _ _ hl, hg.1, hg.2.1, by simp [Value.ownBlock]; omega⟩
  refine ⟨h'.st, h'.fr, h'.rows, h'.nd, fun x hx => (h.fresh.kvs x hx).keep (by simp) hbk, ⟨cs.toList, ⟨by simpa using hkl, .inr ⟨w.heap.size, k.len, cs, rfl, hsz, heap_alloc_new w _, Nat.le_refl _, hm, by simpa using hkl, ?_⟩⟩, hf.keep (by simp) hbk⟩, fun p hp => ?_, h.rb⟩
  · rw [List.take_of_length_le (by rw [hkl]; exact Nat.le_refl _)]
  · have := (h.rows p hp).1.lt
    simp [Value.ownBlock]; omega
/-- A block that is asked for no more. -/
theorem LS.drop {p : Row} (h : LS X w0 w b (p :: Rs) Ks v K) : LS X w0 w b Rs Ks v K := by
  have hb : ∀ g, PB w0.heap.size (p :: Rs) v g → g < w.heap.size → w.heap[g]? = w.heap[g]? ∧ PB w0.heap.size Rs v g := fun g hg _ => ⟨rfl, hg.1, fun q hq => hg.2.1 q (List.mem_cons_of_mem _ hq), hg.2.2⟩
  obtain ⟨cs, o1, o2⟩ := h.own
  exact ⟨h.st, h.fr, fun q hq => h.rows q (List.mem_cons_of_mem _ hq), (List.nodup_cons.1 h.nd).2, fun k hk => (h.kvs k hk).keep (Nat.le_refl _) hb, ⟨cs, o1, o2.keep (Nat.le_refl _) hb⟩, fun q hq => h.ownr q (List.mem_cons_of_mem _ hq), h.rb⟩
theorem LS.dropK {k : Kid} (h : LS X w0 w b Rs (k :: Ks) v K) : LS X w0 w b Rs Ks v K :=
  ⟨h.st, h.fr, h.rows, h.nd, fun q hq => h.kvs q (List.mem_cons_of_mem _ hq), h.own, h.ownr, h.rb⟩
theorem LS.noK (h : LS X w0 w b Rs Ks v K) : LS X w0 w b Rs [] v K :=
  ⟨h.st, h.fr, h.rows, h.nd, fun q hq => by simp at hq, h.own, h.ownr, h.rb⟩
theorem LS.kv {A : Option Addr} {cap n : Nat} (h : LS X w0 w b Rs Ks (.slice A n cap) K) : KV w (fun g => w0.heap.size ≤ g) K A cap := by
  obtain ⟨A', cap', e, hc, hk⟩ := h.list
  obtain ⟨e1, e2, e3⟩ := Value.slice.inj e
  rw [e1, e3]
  exact hk
theorem LS.lenv {A : Option Addr} {cap n : Nat} (h : LS X w0 w b Rs Ks (.slice A n cap) K) : n = K.len := by
  obtain ⟨A', cap', e, hc, hk⟩ := h.list
  exact (Value.slice.inj e).2.1
theorem LS.K1 {k : Kid} (h : LS X w0 w b Rs (k :: Ks) v K) : LS X w0 w b Rs [k] v K :=
  ⟨h.st, h.fr, h.rows, h.nd, fun q hq => h.kvs q (by rw [List.mem_singleton.1 hq]; exact List.mem_cons_self), h.own, h.ownr, h.rb⟩
/-- The list becomes a node's kids. -/
theorem LS.toKid {A : Option Addr} {cap n : Nat} (h : LS X w0 w b Rs Ks (.slice A n cap) K) : LS X w0 w b Rs ((K, A, cap) :: Ks) (.slice none 0 0) .nil := by
  have hf := h.fresh
  obtain ⟨A', cap', e, hc, hk⟩ := h.listP
  obtain ⟨e1, e2, e3⟩ := Value.slice.inj e
  refine ⟨hf.st, hf.fr, hf.rows, hf.nd, fun x hx => ?_, hf.own, hf.ownr, hf.rb⟩
  rcases List.mem_cons.1 hx with rfl | hx
  · rw [← e1, ← e3] at hk
    exact hk.keep (Nat.le_refl _) (fun g hg _ => ⟨rfl, hg.1, hg.2, by simp [Value.ownBlock]⟩)
  · exact hf.kvs x hx
end Pg
end Go.Proofs.YtifkjngclkklfaaGreatDoor
/- What the rows list of the two sentinels of strconv gives the walks. -/
namespace Go.Proofs.YtifkjngclkklfaaGreatDoor
open Go.Shelf Go.Lib Go.RowKit

theorem err_of {w : World} {n : String} {g : Nat} {ty : String} {d : DataW Unit} (hg : Tryz.prog.globalNamed n = some g) (ht : (Tryz.prog.globals[g]?).map (·.type) = some 84)
    (h : VarReads Tryz.prog w n (.iface ty d)) : ∃ t p, w.cell? ⟨g, 0, none⟩ = some (.iface t p) := by
  obtain ⟨g', t, cs, fuel, p, h1, h2, h3, h4⟩ := h
  obtain rfl : g = g' := Option.some.inj (hg.symm.trans h1)
  obtain rfl : 84 = t := Option.some.inj (ht.symm.trans h2)
  obtain ⟨_, u, v, hc, _⟩ := iface_of_trod Tryz.underlying84 h4
  refine ⟨u, v, ?_⟩
  rw [World.var?_cell hg h3 0, ← Array.getElem?_toList, hc]
  rfl
theorem errs_of {l : List (String × DataW Unit)} {W : World} (hL : laidMet Tryz.prog l W) (h1 : ("strconv.ErrSyntax", Rows.laid_strconv_ErrSyntax) ∈ l) (h2 : ("strconv.ErrRange", Rows.laid_strconv_ErrRange) ∈ l) : Errs W :=
  ⟨err_of (by kernel_rfl) (by kernel_rfl) (Lib.laidMet.reads hL h1), err_of (by kernel_rfl) (by kernel_rfl) (Lib.laidMet.reads hL h2)⟩
end Go.Proofs.YtifkjngclkklfaaGreatDoor
