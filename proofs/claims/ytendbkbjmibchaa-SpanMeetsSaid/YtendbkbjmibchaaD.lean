/- Contracts: a text's methods that find lines. -/
import Derived.Test.YtendbkbjmibchaaM
namespace Go.Proofs.Ytendbkbjmibchaa
open Go.RowKit

abbrev tx (s : ByteArray) (A : Option Addr) (cap : Nat) : Value := .agg #[.string s, .slice A (F s).length cap]

set_option maxHeartbeats 400000 in
theorem lines_any (s : ByteArray) (A : Option Addr) (cap : Nat) (w : World) (hl : s.size ≤ 100000) :
    Calls Try.prog 18 #[tx s A cap] w fun e w' => e = .returned (.int .i64 ((F s).length + 1 : Nat)) ∧ Below w.heap.size w w' := by
  have hle := F_len s
  go_enter Try.func18, Try.ntmps18
  go_wp2
  go_ret
  exact ⟨by go_num, (Below.refl _ _).alloc (Nat.le_refl _) _⟩

set_option maxHeartbeats 400000 in
theorem len_any (s : ByteArray) (A : Option Addr) (cap : Nat) (w : World) :
    Calls Try.prog 19 #[tx s A cap] w fun e w' => e = .returned (.int .i64 s.size) ∧ Below w.heap.size w w' := by
  go_enter Try.func19, Try.ntmps19
  go_wp2
  go_ret
  exact ⟨rfl, (Below.refl _ _).alloc (Nat.le_refl _) _⟩

set_option maxHeartbeats 400000 in
theorem lineOf_any (s : ByteArray) (A : Option Addr) (cap : Nat) (a : Int) (w : World) (hl : s.size ≤ 100000) (hx : Ints w w.heap.size A (F s)) (h0 : 0 ≤ a) (h1 : a ≤ s.size) :
    Calls Try.prog 41 #[tx s A cap, .int .i64 a] w fun e w' => e = .returned (.int .i64 (lno s a.toNat)) ∧ Below w.heap.size w w' := by
  have hle := F_len s
  have Hx := Lib.hid hx
  clear hx
  go_enter Try.func41, Try.ntmps41
  go_wp2_with fail
  refine (bs_any A (F s) cap a _ ((Hx.out.alloc (Nat.le_refl _) _).more (by simp)) (by omega) (F_sorted s)).mono ?_
  rintro e w' ⟨k, b, rfl, hk, g1, g2, rfl⟩
  have e := fd_count s a.toNat k (by omega) hk (by rw [show ((a.toNat : Nat) : Int) = a by omega]; exact g1) (by rw [show ((a.toNat : Nat) : Int) = a by omega]; exact g2)
  have E := Lib.hid e
  clear g1 g2 e
  go_wp2
  go_ret
  exact ⟨ri (by rw [E.out]; rfl), (Below.refl _ _).alloc (Nat.le_refl _) _⟩

set_option maxHeartbeats 400000 in
theorem begin_any (s : ByteArray) (A : Option Addr) (cap : Nat) (i : Int) (w : World) (hl : s.size ≤ 100000) (hx : Ints w w.heap.size A (F s)) (h0 : 0 ≤ i) (h1 : i ≤ (F s).length) :
    Calls Try.prog 42 #[tx s A cap, .int .i64 i] w fun e w' => e = .returned (.int .i64 (bg s i.toNat)) ∧ Below w.heap.size w w' := by
  have hle := F_len s
  by_cases hi : i = 0
  · have hd : (i == 0) = true := by simpa using hi
    have E : Hid (bg s i.toNat = 0) := by unfold Hid bg; rw [if_pos (by omega)]
    clear hx hi
    go_enter Try.func42, Try.ntmps42
    go_wp2
    go_ret
    exact ⟨ri (by rw [E.out]; rfl), (Below.refl _ _).alloc (Nat.le_refl _) _⟩
  · have hd : (i == 0) = false := by simpa using hi
    obtain ⟨b, rfl, hb, hc⟩ := hx (by omega)
    obtain ⟨x, hxx⟩ : ∃ x, x = (F s).getD (i.toNat - 1) 0 := ⟨_, rfl⟩
    have hat := F_at s (i.toNat - 1) (by omega)
    rw [← hxx] at hat
    have E : Hid (((bg s i.toNat : Nat) : Int) = x + 1) := by
      unfold Hid bg; rw [if_neg (by omega), ← hxx]; omega
    have hcm : ∀ o, (w.alloc o).cell? ⟨b, (i.toNat - 1), none⟩ = some (.int .i64 x) := fun o => by
      rw [World.cell?_alloc_past _ _ _ hb, hc _ (by omega), hxx]
    have g1 := hat.1
    have g2 := hat.2.1
    have k1 : 0 ≤ i - 1 := by omega
    have k1b : 1 ≤ i := by omega
    have k2 : i - 1 < (F s).length := by omega
    clear hc hb hxx hat hi
    go_enter Try.func42, Try.ntmps42
    go_wp2
    go_ret
    exact ⟨ri E.out.symm, (Below.refl _ _).alloc (Nat.le_refl _) _⟩

set_option maxHeartbeats 400000 in
theorem end_any (s : ByteArray) (A : Option Addr) (cap : Nat) (i : Int) (w : World) (hl : s.size ≤ 100000) (hx : Ints w w.heap.size A (F s)) (h0 : 0 ≤ i) (h1 : i ≤ (F s).length) :
    Calls Try.prog 44 #[tx s A cap, .int .i64 i] w fun e w' => e = .returned (.int .i64 (en s i.toNat)) ∧ Below w.heap.size w w' := by
  have hle := F_len s
  by_cases hi : i = (F s).length
  · subst hi
    have E : Hid (en s ((F s).length : Int).toNat = s.size) := by unfold Hid en; rw [if_pos (by omega)]
    clear hx
    go_enter Try.func44, Try.ntmps44
    go_wp2
    go_ret
    exact ⟨ri (by rw [E.out]), (Below.refl _ _).alloc (Nat.le_refl _) _⟩
  · have hd : (i == ((F s).length : Int)) = false := by simpa using hi
    obtain ⟨b, rfl, hb, hc⟩ := hx (by omega)
    obtain ⟨x, hxx⟩ : ∃ x, x = (F s).getD i.toNat 0 := ⟨_, rfl⟩
    have hat := F_at s i.toNat (by omega)
    rw [← hxx] at hat
    have E : Hid (((en s i.toNat : Nat) : Int) = x) := by
      unfold Hid en; rw [if_neg (by omega), ← hxx]; omega
    have hcm : ∀ o, (w.alloc o).cell? ⟨b, i.toNat, none⟩ = some (.int .i64 x) := fun o => by
      rw [World.cell?_alloc_past _ _ _ hb, hc _ (by omega), hxx]
    have k2 : i < (F s).length := by omega
    clear hc hb hxx hat hi
    go_enter Try.func44, Try.ntmps44
    go_wp2
    go_ret
    exact ⟨ri E.out.symm, (Below.refl _ _).alloc (Nat.le_refl _) _⟩

set_option maxHeartbeats 400000 in
theorem hasLine_any (s : ByteArray) (A : Option Addr) (cap : Nat) (i : Int) (w : World) :
    Calls Try.prog 43 #[tx s A cap, .int .i64 i] w fun e w' => e = .returned (.bool (decide (0 ≤ i) && decide (i ≤ (F s).length))) ∧ Below w.heap.size w w' := by
  go_enter Try.func43, Try.ntmps43
  go_wp2
  all_goals
    go_ret
    exact ⟨rb (by simp <;> omega), (Below.refl _ _).alloc (Nat.le_refl _) _⟩
end Go.Proofs.Ytendbkbjmibchaa
