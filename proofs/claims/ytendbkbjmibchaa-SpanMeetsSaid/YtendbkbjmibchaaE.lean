/- Contracts: places, lines and spans of a text. -/
import Derived.Test.YtendbkbjmibchaaD
import Derived.Deep.RegionHeld3
import Derived.Deep.RegionWith
import Derived.Deep.Light
namespace Go.Proofs.Ytendbkbjmibchaa
open Go.RowKit

theorem below_alloc {w w' : World} {o : Obj} (h : Below (w.alloc o).heap.size (w.alloc o) w') : Below w.heap.size w w' :=
  ((Below.refl _ _).alloc (Nat.le_refl _) o).trans (h.mono (by simp))

set_option maxHeartbeats 400000 in
theorem place_in (s : ByteArray) (A : Option Addr) (cap : Nat) (a : Int) (w : World) (hl : s.size ≤ 100000) (hx : Ints w w.heap.size A (F s)) (h0 : 0 ≤ a) (h1 : a ≤ s.size) :
    Calls Try.prog 16 #[tx s A cap, .int .i64 a] w fun e w' => e = .returned (.tuple #[.int .i64 (lno s a.toNat), .int .i64 (a - bg s (lno s a.toNat)), .int .i64 0]) ∧ Below w.heap.size w w' := by
  have hle := F_len s
  have Hx := Lib.hid hx
  clear hx
  have hl1 := lno_le s a.toNat (by omega)
  have hl2 := lno_in s a.toNat (by omega)
  go_enter Try.func16, Try.ntmps16
  go_wp2_with fail
  refine (lineOf_any s A cap a _ hl ((Hx.out.alloc (Nat.le_refl _) _).more (by simp)) h0 h1).mono ?_
  rintro e w1 ⟨rfl, hb⟩
  have Hb := Lib.hid hb
  have Hb' := Lib.hid (below_alloc hb)
  obtain ⟨hc, hf⟩ := bcell hb
  have hc0 : w1.cell? ⟨w.heap.size, 0, none⟩ = some (.string s) := by rw [hc _ _ (by simp)]; simp [go_sem]
  have hc1 : w1.cell? ⟨w.heap.size, 1, none⟩ = some (.slice A (F s).length cap) := by rw [hc _ _ (by simp)]; simp [go_sem]
  clear hc hf hb
  go_wp2_with fail
  refine (begin_any s A cap (lno s a.toNat) _ hl ((Hx.out.below Hb'.out).more Hb'.out.size) (by omega) (by omega)).mono ?_
  rintro e w2 ⟨rfl, hb2⟩
  rw [Int.toNat_natCast]
  go_wp2
  go_ret3
  exact ⟨rfl, Hb'.out.trans (hb2.mono Hb'.out.size)⟩

set_option maxHeartbeats 400000 in
theorem place_out (s : ByteArray) (A : Option Addr) (cap : Nat) (a : Int) (w : World) (h : a < 0 ∨ s.size < a) :
    Calls Try.prog 16 #[tx s A cap, .int .i64 a] w fun e w' => e = .returned (.tuple #[.int .i64 0, .int .i64 0, .int .i64 6]) ∧ Below w.heap.size w w' := by
  by_cases h0 : a < 0
  · clear h
    go_enter Try.func16, Try.ntmps16
    go_wp2
    go_ret3
    exact ⟨rfl, (Below.refl _ _).alloc (Nat.le_refl _) _⟩
  · have h1 : (s.size : Int) < a := by omega
    have h0' : 0 ≤ a := by omega
    clear h h0
    go_enter Try.func16, Try.ntmps16
    go_wp2
    go_ret3
    exact ⟨rfl, (Below.refl _ _).alloc (Nat.le_refl _) _⟩

/-- What stays while methods of a text are called: the text's own box, and all that was there. -/
theorem held_step {h0 : Nat} {W wp w2 : World} {u v : Value} (h : wp.cell? ⟨h0, 0, none⟩ = some u ∧ wp.cell? ⟨h0, 1, none⟩ = some v ∧ Below (h0 + 1) W wp ∧ h0 < wp.heap.size)
    (hb : Below wp.heap.size wp w2) : w2.cell? ⟨h0, 0, none⟩ = some u ∧ w2.cell? ⟨h0, 1, none⟩ = some v ∧ Below (h0 + 1) W w2 ∧ h0 < w2.heap.size :=
  ⟨(hb.cell (p := ⟨h0, 0, none⟩) h.2.2.2).trans h.1, (hb.cell (p := ⟨h0, 1, none⟩) h.2.2.2).trans h.2.1, h.2.2.1.trans (hb.mono h.2.2.2), Nat.lt_of_lt_of_le h.2.2.2 hb.size⟩

theorem ints_held {h0 : Nat} {W wp : World} {u v : Value} {A : Option Addr} {xs : List Int} (hx : Ints W h0 A xs) (h : wp.cell? ⟨h0, 0, none⟩ = some u ∧ wp.cell? ⟨h0, 1, none⟩ = some v ∧ Below (h0 + 1) W wp ∧ h0 < wp.heap.size) :
    Ints wp wp.heap.size A xs := (hx.below (h.2.2.1.mono (Nat.le_succ _))).more (Nat.le_of_lt h.2.2.2)

/-- At, a place: the line is there, and so is the column, or not. -/
def AtOf (s : ByteArray) (i : Nat) (c : Int) (w : World) (e : Ending) (w' : World) : Prop :=
  (if 0 ≤ c ∧ c ≤ (en s i : Int) - bg s i then e = .returned (.tuple #[.int .i64 (bg s i + c), .int .i64 0]) else e = .returned (.tuple #[.int .i64 0, .int .i64 6])) ∧ Below w.heap.size w w'

set_option maxHeartbeats 1000000 in
theorem at_in (s : ByteArray) (A : Option Addr) (cap : Nat) (i c : Int) (w : World) (hl : s.size ≤ 100000) (hx : Ints w w.heap.size A (F s)) (h0 : 0 ≤ i) (h1 : i ≤ (F s).length) :
    Calls Try.prog 20 #[tx s A cap, .int .i64 i, .int .i64 c] w (AtOf s i.toNat c w) := by
  have hle := F_len s
  have Hx := Lib.hid hx
  clear hx
  have hl2 := bg_le_en s i.toNat (by omega)
  go_enter Try.func20, Try.ntmps20
  go_wp2_with fail
  refine (hasLine_any s A cap i _).mono ?_
  rintro e w1 ⟨rfl, hb⟩
  rw [show (decide (0 ≤ i) && decide (i ≤ ((F s).length : Int))) = true by simp; omega]
  have Hb' := Lib.hid (below_alloc hb)
  obtain ⟨hc, hf⟩ := bcell hb
  have hc0 : w1.cell? ⟨w.heap.size, 0, none⟩ = some (.string s) := by rw [hc _ _ (by simp)]; simp [go_sem]
  have hc1 : w1.cell? ⟨w.heap.size, 1, none⟩ = some (.slice A (F s).length cap) := by rw [hc _ _ (by simp)]; simp [go_sem]
  have hsz : w.heap.size < w1.heap.size := by have := hb.size; simp at this; omega
  clear hc hf hb
  go_wp2_with fail
  go_region_held3 (fun w' => w'.cell? ⟨w.heap.size, 0, none⟩ = some (.string s) ∧ w'.cell? ⟨w.heap.size, 1, none⟩ = some (.slice A (F s).length cap) ∧ Below (w.heap.size + 1) w1 w' ∧ w.heap.size < w'.heap.size)
    (first | exact ⟨hc0, hc1, (Below.refl _ _).drew, hsz⟩ | exact held_step (by assumption) hbn)
    (first
      | (go_at_call 42; refine (begin_any s A cap i _ hl ?_ h0 h1).mono ?_; (exact ints_held (Hx.out.below Hb'.out) (by assumption)); rintro e w' ⟨rfl, hbn⟩)
      | (go_at_call 44; refine (end_any s A cap i _ hl ?_ h0 h1).mono ?_; (exact ints_held (Hx.out.below Hb'.out) (by assumption)); rintro e w' ⟨rfl, hbn⟩))
  all_goals
    have hB := (by assumption : _ ∧ _ ∧ Below (w.heap.size + 1) w1 w' ∧ _).2.2.1
    have HB := Lib.hid (Hb'.out.trans (hB.mono (Nat.le_succ _)))
    clear hB
    by_cases hlo : c < 0
    · have HN : Hid (¬ (0 ≤ c ∧ c ≤ (en s i.toNat : Int) - bg s i.toNat)) := by unfold Hid; omega
      go_wp2
      go_ret2
      exact ⟨by rw [if_neg HN.out]; rfl, HB.out⟩
    · have hlo' : 0 ≤ c := by omega
      clear hlo
      by_cases hhi : (en s i.toNat : Int) - bg s i.toNat < c
      · have HN : Hid (¬ (0 ≤ c ∧ c ≤ (en s i.toNat : Int) - bg s i.toNat)) := by unfold Hid; omega
        go_wp2
        go_ret2
        exact ⟨by rw [if_neg HN.out]; rfl, HB.out⟩
      · have hhi' : c ≤ (en s i.toNat : Int) - bg s i.toNat := by omega
        have HN : Hid (0 ≤ c ∧ c ≤ (en s i.toNat : Int) - bg s i.toNat) := ⟨hlo', hhi'⟩
        clear hhi
        go_wp2
        go_ret2
        exact ⟨by rw [if_pos HN.out]; rfl, HB.out⟩

set_option maxHeartbeats 400000 in
theorem at_out (s : ByteArray) (A : Option Addr) (cap : Nat) (i c : Int) (w : World) (h : ¬ (0 ≤ i ∧ i ≤ (F s).length)) :
    Calls Try.prog 20 #[tx s A cap, .int .i64 i, .int .i64 c] w fun e w' => e = .returned (.tuple #[.int .i64 0, .int .i64 6]) ∧ Below w.heap.size w w' := by
  have hd : (decide (0 ≤ i) && decide (i ≤ ((F s).length : Int))) = false := by simp; omega
  have HD := Lib.hid hd
  clear hd h
  go_enter Try.func20, Try.ntmps20
  go_wp2_with fail
  refine (hasLine_any s A cap i _).mono ?_
  rintro e w1 ⟨rfl, hb⟩
  rw [HD.out]
  have Hb' := Lib.hid (below_alloc hb)
  clear hb
  go_wp2_with fail
  go_ret2
  exact ⟨rfl, Hb'.out⟩

set_option maxHeartbeats 400000 in
theorem line_out (s : ByteArray) (A : Option Addr) (cap : Nat) (i : Int) (w : World) (h : ¬ (0 ≤ i ∧ i ≤ (F s).length)) :
    Calls Try.prog 22 #[tx s A cap, .int .i64 i] w fun e w' => e = .returned (.tuple #[.string ⟨#[]⟩, .int .i64 6]) ∧ Below w.heap.size w w' := by
  have hd : (decide (0 ≤ i) && decide (i ≤ ((F s).length : Int))) = false := by simp; omega
  have HD := Lib.hid hd
  clear hd h
  go_enter Try.func22, Try.ntmps22
  go_wp2_with fail
  refine (hasLine_any s A cap i _).mono ?_
  rintro e w1 ⟨rfl, hb⟩
  rw [HD.out]
  have Hb' := Lib.hid (below_alloc hb)
  clear hb
  go_wp2_with fail
  go_ret2
  exact ⟨rfl, Hb'.out⟩

set_option maxHeartbeats 1000000 in
theorem line_in (s : ByteArray) (A : Option Addr) (cap : Nat) (i : Int) (w : World) (hl : s.size ≤ 100000) (hx : Ints w w.heap.size A (F s)) (h0 : 0 ≤ i) (h1 : i ≤ (F s).length) :
    Calls Try.prog 22 #[tx s A cap, .int .i64 i] w fun e w' => e = .returned (.tuple #[.string (s.extract (bg s i.toNat) (en s i.toNat)), .int .i64 0]) ∧ Below w.heap.size w w' := by
  have hle := F_len s
  have Hx := Lib.hid hx
  clear hx
  have hl2 := bg_le_en s i.toNat (by omega)
  have hl3 : (0 : Int) ≤ (bg s i.toNat : Int) := by omega
  have hl4 : (bg s i.toNat : Int) ≤ (en s i.toNat : Int) := by omega
  have hl5 : (en s i.toNat : Int) ≤ (s.size : Int) := by omega
  go_enter Try.func22, Try.ntmps22
  go_wp2_with fail
  refine (hasLine_any s A cap i _).mono ?_
  rintro e w1 ⟨rfl, hb⟩
  rw [show (decide (0 ≤ i) && decide (i ≤ ((F s).length : Int))) = true by simp; omega]
  have Hb' := Lib.hid (below_alloc hb)
  obtain ⟨hc, hf⟩ := bcell hb
  have hc0 : w1.cell? ⟨w.heap.size, 0, none⟩ = some (.string s) := by rw [hc _ _ (by simp)]; simp [go_sem]
  have hc1 : w1.cell? ⟨w.heap.size, 1, none⟩ = some (.slice A (F s).length cap) := by rw [hc _ _ (by simp)]; simp [go_sem]
  have hsz : w.heap.size < w1.heap.size := by have := hb.size; simp at this; omega
  clear hc hf hb
  go_wp2_with fail
  go_region_held3 (fun w' => w'.cell? ⟨w.heap.size, 0, none⟩ = some (.string s) ∧ w'.cell? ⟨w.heap.size, 1, none⟩ = some (.slice A (F s).length cap) ∧ Below (w.heap.size + 1) w1 w' ∧ w.heap.size < w'.heap.size)
    (first | exact ⟨hc0, hc1, (Below.refl _ _).drew, hsz⟩ | exact held_step (by assumption) hbn)
    (first
      | (go_at_call 42; refine (begin_any s A cap i _ hl ?_ h0 h1).mono ?_; (exact ints_held (Hx.out.below Hb'.out) (by assumption)); rintro e w' ⟨rfl, hbn⟩)
      | (go_at_call 44; refine (end_any s A cap i _ hl ?_ h0 h1).mono ?_; (exact ints_held (Hx.out.below Hb'.out) (by assumption)); rintro e w' ⟨rfl, hbn⟩))
  all_goals
    have hB := (by assumption : _ ∧ _ ∧ Below (w.heap.size + 1) w1 w' ∧ _).2.2.1
    have HB := Lib.hid (Hb'.out.trans (hB.mono (Nat.le_succ _)))
    clear hB
    go_wp2
    go_ret2
    exact ⟨rfl, HB.out⟩
end Go.Proofs.Ytendbkbjmibchaa
