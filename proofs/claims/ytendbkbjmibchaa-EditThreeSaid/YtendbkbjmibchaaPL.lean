/- Contracts: how long a piece is; a piece parted. -/
import Derived.Test.YtendbkbjmibchaaZC
namespace Go.Proofs.Ytendbkbjmibchaa
open Go.RowKit

/-- A piece whose numbers are no trouble. -/
def Good (p : Pc) : Prop := 0 ≤ p.f ∧ p.f ≤ p.t ∧ p.t ≤ 1000000000000000 ∧ p.x.size ≤ 1000000000000000

set_option maxHeartbeats 1000000 in
theorem long_any (p : Pc) (w : World) (hp : Good p) : Calls Try.prog 71 #[pv p] w fun e w' => e = .returned (.int .i64 (plen p)) ∧ Below w.heap.size w w' := by
  obtain ⟨h0, h1, h2, h3⟩ := hp
  go_enter Try.func71, Try.ntmps71
  go_wp2_with fail
  refine (isPut_any p _).mono ?_
  rintro e w1 ⟨rfl, hb⟩
  have HP1 := Lib.hid ((RowB.new w 79 #[.int .i64 p.f, .int .i64 p.t, .string p.x]).below hb (by simp))
  have p0 : w1.cell? ⟨w.heap.size, 0, none⟩ = some (.int .i64 p.f) := HP1.out.cell 0
  have p1 : w1.cell? ⟨w.heap.size, 1, none⟩ = some (.int .i64 p.t) := HP1.out.cell 1
  have p2 : w1.cell? ⟨w.heap.size, 2, none⟩ = some (.string p.x) := HP1.out.cell 2
  have HB := Lib.hid (below_alloc' hb)
  clear hb
  by_cases hz : p.x.size = 0
  · rw [show (!decide (p.x.size = 0)) = false by simp [hz]]
    have E : Hid (plen p = p.t - p.f) := by unfold Hid plen; rw [if_pos hz]
    clear hz
    go_wp2_with fail
    go_ret
    exact ⟨ri E.out.symm, HB.out⟩
  · rw [show (!decide (p.x.size = 0)) = true by simp [hz]]
    have E : Hid (plen p = p.x.size) := by unfold Hid plen; rw [if_neg hz]
    clear hz
    go_wp2_with fail
    go_ret
    exact ⟨ri E.out.symm, HB.out⟩

theorem row_new (w : World) (t : TypeId) (cs : Array Value) {g : Nat} (h : g = w.heap.size) : RowB (w.alloc (.cells cs t)) g t cs := by subst h; exact RowB.new w t cs

set_option maxHeartbeats 4000000 in
set_option maxRecDepth 100000 in
theorem split_any (p : Pc) (k : Int) (w : World) (hp : Good p) (hk : 0 < k) (hk1 : k < plen p) : Calls Try.prog 72 #[pv p, .int .i64 k] w fun e w' => e = .returned (.tuple #[pv (hd p k), pv (tl p k)]) ∧ Below w.heap.size w w' := by
  obtain ⟨h0, h1, h2, h3⟩ := hp
  go_enter Try.func72, Try.ntmps72
  go_wp2_with fail
  refine (isPut_any p _).mono ?_
  rintro e w1 ⟨rfl, hb⟩
  have hsz : w.heap.size + 3 ≤ w1.heap.size := by have := hb.size; simp at this; omega
  have HP1 := Lib.hid ((((RowB.new w 79 #[.int .i64 p.f, .int .i64 p.t, .string p.x]).alloc _).alloc _).below hb (by simp; omega))
  have HP4 := Lib.hid (((row_new (w.alloc (.cells #[.int .i64 p.f, .int .i64 p.t, .string p.x] 79)) 79 #[.int .i64 0, .int .i64 0, .string ⟨#[]⟩] (g := w.heap.size + 1) (by simp)).alloc (.cells #[.int .i64 0, .int .i64 0, .string ⟨#[]⟩] 79)).below hb (by simp))
  have HP5 := Lib.hid ((row_new ((w.alloc (.cells #[.int .i64 p.f, .int .i64 p.t, .string p.x] 79)).alloc (.cells #[.int .i64 0, .int .i64 0, .string ⟨#[]⟩] 79)) 79 #[.int .i64 0, .int .i64 0, .string ⟨#[]⟩] (g := w.heap.size + 1 + 1) (by simp)).below hb (by simp))
  have HB : Hid (Below w.heap.size w w1) := (((Below.refl w.heap.size w).alloc (Nat.le_refl _) (.cells #[.int .i64 p.f, .int .i64 p.t, .string p.x] 79)).alloc (by simp) (.cells #[.int .i64 0, .int .i64 0, .string ⟨#[]⟩] 79)).alloc (by simp; omega) (.cells #[.int .i64 0, .int .i64 0, .string ⟨#[]⟩] 79) |>.trans (hb.mono (by simp; omega))
  clear hb
  have p0 : w1.cell? ⟨w.heap.size, 0, none⟩ = some (.int .i64 p.f) := HP1.out.cell 0
  have p1 : w1.cell? ⟨w.heap.size, 1, none⟩ = some (.int .i64 p.t) := HP1.out.cell 1
  have p2 : w1.cell? ⟨w.heap.size, 2, none⟩ = some (.string p.x) := HP1.out.cell 2
  have q0 : w1.cell? ⟨w.heap.size + 1, 0, none⟩ = some (.int .i64 0) := HP4.out.cell 0
  have q1 : w1.cell? ⟨w.heap.size + 1, 1, none⟩ = some (.int .i64 0) := HP4.out.cell 1
  have q2 : w1.cell? ⟨w.heap.size + 1, 2, none⟩ = some (.string ⟨#[]⟩) := HP4.out.cell 2
  have q3 : w1.frozen? ⟨w.heap.size + 1, 0, none⟩ = false := HP4.out.thaw 0
  have q4 : w1.frozen? ⟨w.heap.size + 1, 1, none⟩ = false := HP4.out.thaw 1
  have q5 : w1.frozen? ⟨w.heap.size + 1, 2, none⟩ = false := HP4.out.thaw 2
  have r0 : w1.cell? ⟨w.heap.size + 1 + 1, 0, none⟩ = some (.int .i64 0) := HP5.out.cell 0
  have r1 : w1.cell? ⟨w.heap.size + 1 + 1, 1, none⟩ = some (.int .i64 0) := HP5.out.cell 1
  have r2 : w1.cell? ⟨w.heap.size + 1 + 1, 2, none⟩ = some (.string ⟨#[]⟩) := HP5.out.cell 2
  have r3 : w1.frozen? ⟨w.heap.size + 1 + 1, 0, none⟩ = false := HP5.out.thaw 0
  have r4 : w1.frozen? ⟨w.heap.size + 1 + 1, 1, none⟩ = false := HP5.out.thaw 1
  have r5 : w1.frozen? ⟨w.heap.size + 1 + 1, 2, none⟩ = false := HP5.out.thaw 2
  have n1 : w.heap.size + 1 + 1 ≠ w.heap.size := by omega
  have n2 : w.heap.size + 1 ≠ w.heap.size := by omega
  by_cases hz : p.x.size = 0
  · rw [show (!decide (p.x.size = 0)) = false by simp [hz]]
    have e1 : hd p k = ⟨p.f, p.f + k, ⟨#[]⟩⟩ := by unfold hd; rw [if_pos hz]
    have e2 : tl p k = ⟨p.f + k, p.t, ⟨#[]⟩⟩ := by unfold tl; rw [if_pos hz]
    have E1 := Lib.hid e1
    have E2 := Lib.hid e2
    have hpl : plen p = p.t - p.f := by unfold plen; rw [if_pos hz]
    have hwr : IntKind.i64.wrap (p.f + k) = p.f + k := by rw [IntKind.wrap_i64]; omega
    have H1 := Lib.hid hk
    clear e1 e2 hz
    go_wp2_with fail
    go_region_held3 (fun w' => w'.cell? ⟨w.heap.size, 0, none⟩ = some (.int .i64 p.f) ∧ w'.cell? ⟨w.heap.size, 1, none⟩ = some (.int .i64 p.t)) (go_keep) (fail)
    go_wp2_with fail
    refine bodyPost_ret (v := .tuple #[pv (hd p k), pv (tl p k)]) ?_ rfl ⟨rfl, ?_⟩
    · rw [E1.out, E2.out]
      simp [results, Try.f72, go_sem, *]
    · exact ((((((HB.out.setCell (p := ⟨w.heap.size + 1, 0, none⟩) (by simp) _).setCell (p := ⟨w.heap.size + 1, 1, none⟩) (by simp) _).setCell (p := ⟨w.heap.size + 1, 2, none⟩) (by simp) _).setCell (p := ⟨w.heap.size + 1 + 1, 0, none⟩) (by simp; omega) _).setCell (p := ⟨w.heap.size + 1 + 1, 1, none⟩) (by simp; omega) _).setCell (p := ⟨w.heap.size + 1 + 1, 2, none⟩) (by simp; omega) _).drew
  · rw [show (!decide (p.x.size = 0)) = true by simp [hz]]
    have e1 : hd p k = ⟨0, 0, p.x.extract 0 k.toNat⟩ := by unfold hd; rw [if_neg hz]
    have e2 : tl p k = ⟨0, 0, p.x.extract k.toNat p.x.size⟩ := by unfold tl; rw [if_neg hz]
    have E1 := Lib.hid e1
    have E2 := Lib.hid e2
    have hpl : plen p = p.x.size := by unfold plen; rw [if_neg hz]
    rw [hpl] at hk1
    have hk0 : 0 ≤ k := by omega
    have hk2 : k ≤ p.x.size := by omega
    clear e1 e2 hz
    go_wp2_with fail
    go_region_held3 (fun w' => w'.cell? ⟨w.heap.size, 2, none⟩ = some (.string p.x)) (go_keep) (fail)
    go_wp2_with fail
    refine bodyPost_ret (v := .tuple #[pv (hd p k), pv (tl p k)]) ?_ rfl ⟨rfl, ?_⟩
    · rw [E1.out, E2.out]
      simp [results, Try.f72, go_sem, *]
    · exact ((((((HB.out.setCell (p := ⟨w.heap.size + 1, 0, none⟩) (by simp) _).setCell (p := ⟨w.heap.size + 1, 1, none⟩) (by simp) _).setCell (p := ⟨w.heap.size + 1, 2, none⟩) (by simp) _).setCell (p := ⟨w.heap.size + 1 + 1, 0, none⟩) (by simp; omega) _).setCell (p := ⟨w.heap.size + 1 + 1, 1, none⟩) (by simp; omega) _).setCell (p := ⟨w.heap.size + 1 + 1, 2, none⟩) (by simp; omega) _).drew
end Go.Proofs.Ytendbkbjmibchaa
