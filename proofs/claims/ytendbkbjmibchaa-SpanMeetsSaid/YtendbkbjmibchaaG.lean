/- Contracts: cuts of a text, the lines that a span touches, the law's example. -/
import Derived.Test.YtendbkbjmibchaaE
namespace Go.Proofs.Ytendbkbjmibchaa
open Go.RowKit

/-- The example's text. -/
def ex : ByteArray := ⟨#[97, 98, 10, 99]⟩

set_option maxHeartbeats 400000 in
theorem awake_any (w : World) : Calls Try.prog 13 #[] w fun e w' => e = .returned (.bool true) ∧ Below w.heap.size w w' := by
  go_enter Try.func13, Try.ntmps13
  go_wp2_with fail
  refine (of_any ex _ (by decide)).mono ?_
  rintro e w1 ⟨A, cap, rfl, hi, hb⟩
  go_wp2_with fail
  refine (place_in ex A cap 3 _ (by decide) hi (by decide) (by decide)).mono ?_
  rintro e w2 ⟨rfl, hb2⟩
  rw [show lno ex (3 : Int).toNat = 1 by decide, show bg ex 1 = 3 by decide]
  have HB := Lib.hid (hb.trans (hb2.mono hb.size))
  clear hi hb hb2
  go_wp2
  go_ret
  exact ⟨rfl, HB.out⟩

set_option maxHeartbeats 400000 in
theorem cut_in (s : ByteArray) (A : Option Addr) (cap : Nat) (f t : Int) (w : World) (h0 : 0 ≤ f) (h1 : f ≤ t) (h2 : t ≤ s.size) :
    Calls Try.prog 28 #[tx s A cap, sp f t] w fun e w' => e = .returned (.tuple #[.string (s.extract f.toNat t.toNat), .int .i64 0]) ∧ Below w.heap.size w w' := by
  go_enter Try.func28, Try.ntmps28
  go_wp2_with fail
  refine (sound_any f t s.size _).mono ?_
  rintro e w1 ⟨rfl, hb⟩
  rw [show (decide (0 ≤ f) && decide (f ≤ t) && decide (t ≤ (s.size : Int))) = true by simp; omega]
  have Hb' := Lib.hid (below_alloc (below_alloc hb))
  obtain ⟨hc, hf⟩ := bcell hb
  have hc0 : w1.cell? ⟨w.heap.size, 0, none⟩ = some (.string s) := by rw [hc _ _ (by simp; omega)]; simp [go_sem]
  have hd0 : w1.cell? ⟨w.heap.size + 1, 0, none⟩ = some (.int .i64 f) := by rw [hc _ _ (by simp)]; simp [go_sem]
  have hd1 : w1.cell? ⟨w.heap.size + 1, 1, none⟩ = some (.int .i64 t) := by rw [hc _ _ (by simp)]; simp [go_sem]
  clear hc hf hb
  go_wp2
  go_ret2
  exact ⟨rfl, Hb'.out⟩

set_option maxHeartbeats 400000 in
theorem cut_out (s : ByteArray) (A : Option Addr) (cap : Nat) (f t : Int) (w : World) (h : ¬ (0 ≤ f ∧ f ≤ t ∧ t ≤ s.size)) :
    Calls Try.prog 28 #[tx s A cap, sp f t] w fun e w' => e = .returned (.tuple #[.string ⟨#[]⟩, .int .i64 6]) ∧ Below w.heap.size w w' := by
  have HD : Hid ((decide (0 ≤ f) && decide (f ≤ t) && decide (t ≤ (s.size : Int))) = false) := by unfold Hid; simp; omega
  clear h
  go_enter Try.func28, Try.ntmps28
  go_wp2_with fail
  refine (sound_any f t s.size _).mono ?_
  rintro e w1 ⟨rfl, hb⟩
  rw [HD.out]
  have Hb' := Lib.hid (below_alloc (below_alloc hb))
  clear hb
  go_wp2
  go_ret2
  exact ⟨rfl, Hb'.out⟩

set_option maxHeartbeats 400000 in
theorem touched_out (s : ByteArray) (A : Option Addr) (cap : Nat) (f t : Int) (w : World) (h : ¬ (0 ≤ f ∧ f ≤ t ∧ t ≤ s.size)) :
    Calls Try.prog 29 #[tx s A cap, sp f t] w fun e w' => e = .returned (.tuple #[.int .i64 0, .int .i64 0, .int .i64 6]) ∧ Below w.heap.size w w' := by
  have HD : Hid ((decide (0 ≤ f) && decide (f ≤ t) && decide (t ≤ (s.size : Int))) = false) := by unfold Hid; simp; omega
  clear h
  go_enter Try.func29, Try.ntmps29
  go_wp2_with fail
  refine (sound_any f t s.size _).mono ?_
  rintro e w1 ⟨rfl, hb⟩
  rw [HD.out]
  have Hb' := Lib.hid (below_alloc (below_alloc hb))
  clear hb
  go_wp2
  go_ret3
  exact ⟨rfl, Hb'.out⟩

theorem held4_step {h0 : Nat} {W wp w2 : World} {u v x : Value}
    (h : wp.cell? ⟨h0, 0, none⟩ = some u ∧ wp.cell? ⟨h0, 1, none⟩ = some v ∧ wp.cell? ⟨h0 + 1, 0, none⟩ = some x ∧ Below (h0 + 2) W wp ∧ h0 + 1 < wp.heap.size)
    (hb : Below wp.heap.size wp w2) : w2.cell? ⟨h0, 0, none⟩ = some u ∧ w2.cell? ⟨h0, 1, none⟩ = some v ∧ w2.cell? ⟨h0 + 1, 0, none⟩ = some x ∧ Below (h0 + 2) W w2 ∧ h0 + 1 < w2.heap.size :=
  ⟨(hb.cell (p := ⟨h0, 0, none⟩) (Nat.lt_of_succ_lt h.2.2.2.2)).trans h.1, (hb.cell (p := ⟨h0, 1, none⟩) (Nat.lt_of_succ_lt h.2.2.2.2)).trans h.2.1, (hb.cell (p := ⟨h0 + 1, 0, none⟩) h.2.2.2.2).trans h.2.2.1,
    h.2.2.2.1.trans (hb.mono h.2.2.2.2), Nat.lt_of_lt_of_le h.2.2.2.2 hb.size⟩
theorem ints4_held {h0 : Nat} {W wp : World} {u v x : Value} {A : Option Addr} {xs : List Int} (hx : Ints W h0 A xs)
    (h : wp.cell? ⟨h0, 0, none⟩ = some u ∧ wp.cell? ⟨h0, 1, none⟩ = some v ∧ wp.cell? ⟨h0 + 1, 0, none⟩ = some x ∧ Below (h0 + 2) W wp ∧ h0 + 1 < wp.heap.size) :
    Ints wp wp.heap.size A xs := (hx.below (h.2.2.2.1.mono (by omega))).more (by have := h.2.2.2.2; omega)

/-- The place of a span's last byte; an empty one's place. -/
def lastOf (f t : Int) : Int := if f < t then t - 1 else f

set_option maxHeartbeats 1000000 in
theorem touched_in (s : ByteArray) (A : Option Addr) (cap : Nat) (f t : Int) (w : World) (hl : s.size ≤ 100000) (hx : Ints w w.heap.size A (F s)) (h0 : 0 ≤ f) (h1 : f ≤ t) (h2 : t ≤ s.size) :
    Calls Try.prog 29 #[tx s A cap, sp f t] w fun e w' => e = .returned (.tuple #[.int .i64 (lno s f.toNat), .int .i64 (lno s (lastOf f t).toNat), .int .i64 0]) ∧ Below w.heap.size w w' := by
  have Hx := Lib.hid hx
  clear hx
  go_enter Try.func29, Try.ntmps29
  go_wp2_with fail
  refine (sound_any f t s.size _).mono ?_
  rintro e w1 ⟨rfl, hb⟩
  rw [show (decide (0 ≤ f) && decide (f ≤ t) && decide (t ≤ (s.size : Int))) = true by simp; omega]
  have Hb' := Lib.hid (below_alloc (below_alloc hb))
  obtain ⟨hc, hf⟩ := bcell hb
  have hc0 : w1.cell? ⟨w.heap.size, 0, none⟩ = some (.string s) := by rw [hc _ _ (by simp; omega)]; simp [go_sem]
  have hc1 : w1.cell? ⟨w.heap.size, 1, none⟩ = some (.slice A (F s).length cap) := by rw [hc _ _ (by simp; omega)]; simp [go_sem]
  have hd0 : w1.cell? ⟨w.heap.size + 1, 0, none⟩ = some (.int .i64 f) := by rw [hc _ _ (by simp)]; simp [go_sem]
  have hd1 : w1.cell? ⟨w.heap.size + 1, 1, none⟩ = some (.int .i64 t) := by rw [hc _ _ (by simp)]; simp [go_sem]
  have hz1 : w.heap.size + 1 < w1.heap.size := by have := hb.size; simp at this; omega
  clear hc hf hb
  go_wp2_with fail
  refine (long_any f t _ h0 (by omega) (by omega) (by omega)).mono ?_
  rintro e w2 ⟨rfl, hb⟩
  have Hb2 := Lib.hid (Hb'.out.trans (hb.mono Hb'.out.size))
  obtain ⟨hc, hf⟩ := bcell hb
  have kc0 : w2.cell? ⟨w.heap.size, 0, none⟩ = some (.string s) := by rw [hc _ _ (by omega)]; exact hc0
  have kc1 : w2.cell? ⟨w.heap.size, 1, none⟩ = some (.slice A (F s).length cap) := by rw [hc _ _ (by omega)]; exact hc1
  have kd0 : w2.cell? ⟨w.heap.size + 1, 0, none⟩ = some (.int .i64 f) := by rw [hc _ _ (by omega)]; exact hd0
  have kd1 : w2.cell? ⟨w.heap.size + 1, 1, none⟩ = some (.int .i64 t) := by rw [hc _ _ (by omega)]; exact hd1
  have kz1 : w.heap.size + 1 < w2.heap.size := by have := hb.size; omega
  clear hc hf hb hc0 hc1 hd0 hd1 hz1
  have Hx2 := Lib.hid (Hx.out.below Hb2.out)
  by_cases hlt : f < t
  · rw [if_neg (by omega)]
    have hpos : 0 < t - f := by omega
    have E : Hid (lastOf f t = t - 1) := by unfold Hid lastOf; rw [if_pos hlt]
    go_wp2_with fail
    go_region_held3 (fun w' => w'.cell? ⟨w.heap.size, 0, none⟩ = some (.string s) ∧ w'.cell? ⟨w.heap.size, 1, none⟩ = some (.slice A (F s).length cap) ∧ w'.cell? ⟨w.heap.size + 1, 0, none⟩ = some (.int .i64 f) ∧ Below (w.heap.size + 2) w2 w' ∧ w.heap.size + 1 < w'.heap.size)
      (first | exact ⟨kc0, kc1, kd0, (Below.refl _ _).drew, kz1⟩ | exact held4_step (by assumption) hbn)
      (first
        | (go_at_call 41; refine (lineOf_any s A cap _ _ hl ?_ ?_ ?_).mono ?_; (exact ints4_held Hx2.out (by assumption)); omega; omega; rintro e w' ⟨rfl, hbn⟩))
    all_goals
      have hB := (by assumption : _ ∧ _ ∧ _ ∧ Below (w.heap.size + 2) w2 w' ∧ _).2.2.2.1
      have HB := Lib.hid (Hb2.out.trans (hB.mono (by omega)))
      clear hB
      go_wp2
      go_ret3
      exact ⟨by rw [E.out, show (t - 1).toNat = t.toNat - 1 by omega]; rfl, HB.out⟩
  · rw [show (if t < f then 0 else t - f) = 0 by split <;> omega]
    have E : Hid (lastOf f t = f) := by unfold Hid lastOf; rw [if_neg hlt]
    go_wp2_with fail
    go_region_held3 (fun w' => w'.cell? ⟨w.heap.size, 0, none⟩ = some (.string s) ∧ w'.cell? ⟨w.heap.size, 1, none⟩ = some (.slice A (F s).length cap) ∧ w'.cell? ⟨w.heap.size + 1, 0, none⟩ = some (.int .i64 f) ∧ Below (w.heap.size + 2) w2 w' ∧ w.heap.size + 1 < w'.heap.size)
      (first | exact ⟨kc0, kc1, kd0, (Below.refl _ _).drew, kz1⟩ | exact held4_step (by assumption) hbn)
      (first
        | (go_at_call 41; refine (lineOf_any s A cap _ _ hl ?_ ?_ ?_).mono ?_; (exact ints4_held Hx2.out (by assumption)); omega; omega; rintro e w' ⟨rfl, hbn⟩))
    all_goals
      have hB := (by assumption : _ ∧ _ ∧ _ ∧ Below (w.heap.size + 2) w2 w' ∧ _).2.2.2.1
      have HB := Lib.hid (Hb2.out.trans (hB.mono (by omega)))
      clear hB
      go_wp2
      go_ret3
      exact ⟨by rw [E.out]; rfl, HB.out⟩
end Go.Proofs.Ytendbkbjmibchaa
