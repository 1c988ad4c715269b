/- The law SpanMeets returns true, whatever it is given. -/
import Derived.Test.YtendbkbjmibchaaH
import Derived.Deep.DeepCutAuto
import Derived.Lib.QuietBelow
namespace Go.Proofs.Ytendbkbjmibchaa
open Go.RowKit

theorem cells2 {w : World} {g t : Nat} {x y : Value} (h : RowB w g t #[x, y]) : w.cell? ⟨g, 0, none⟩ = some x ∧ w.cell? ⟨g, 1, none⟩ = some y := ⟨h.cell 0, h.cell 1⟩
theorem RowB.new' (w : World) (t : TypeId) (cs : Array Value) {g : Nat} (h : g = w.heap.size) : RowB (w.alloc (.cells cs t)) g t cs := by subst h; exact RowB.new w t cs
theorem held6_step {g h k : Nat} {W wp w2 : World} {B : Nat} {u v x y p q : Value}
    (H : wp.cell? ⟨g, 0, none⟩ = some u ∧ wp.cell? ⟨g, 1, none⟩ = some v ∧ wp.cell? ⟨h, 0, none⟩ = some x ∧ wp.cell? ⟨h, 1, none⟩ = some y ∧ wp.cell? ⟨k, 0, none⟩ = some p ∧ wp.cell? ⟨k, 1, none⟩ = some q ∧ Below B W wp ∧ (g < B ∧ h < B ∧ k < B) ∧ B ≤ wp.heap.size)
    (hb : Below wp.heap.size wp w2) : w2.cell? ⟨g, 0, none⟩ = some u ∧ w2.cell? ⟨g, 1, none⟩ = some v ∧ w2.cell? ⟨h, 0, none⟩ = some x ∧ w2.cell? ⟨h, 1, none⟩ = some y ∧ w2.cell? ⟨k, 0, none⟩ = some p ∧ w2.cell? ⟨k, 1, none⟩ = some q ∧ Below B W w2 ∧ (g < B ∧ h < B ∧ k < B) ∧ B ≤ w2.heap.size := by
  obtain ⟨c0, c1, c2, c3, c4, c5, hB, ⟨l1, l2, l3⟩, hs⟩ := H
  exact ⟨(hb.cell (p := ⟨g, 0, none⟩) (Nat.lt_of_lt_of_le l1 hs)).trans c0, (hb.cell (p := ⟨g, 1, none⟩) (Nat.lt_of_lt_of_le l1 hs)).trans c1, (hb.cell (p := ⟨h, 0, none⟩) (Nat.lt_of_lt_of_le l2 hs)).trans c2,
    (hb.cell (p := ⟨h, 1, none⟩) (Nat.lt_of_lt_of_le l2 hs)).trans c3, (hb.cell (p := ⟨k, 0, none⟩) (Nat.lt_of_lt_of_le l3 hs)).trans c4, (hb.cell (p := ⟨k, 1, none⟩) (Nat.lt_of_lt_of_le l3 hs)).trans c5, hB.trans (hb.mono hs), ⟨l1, l2, l3⟩, Nat.le_trans hs hb.size⟩
/-- How many of the first k places lie from x on, up to y. -/
def lgTo (x y k : Int) : Int := max 0 (min k y - x)
theorem vb {a b : Bool} (h : a = true ↔ b = true) : Value.bool a = .bool b := by rw [Bool.eq_iff_iff.2 h]

set_option maxHeartbeats 8000000 in
set_option maxRecDepth 100000 in
theorem spanMeets_walk (a b c d at_ : Int) (w : World) (a0 : 0 ≤ a) (a1 : a ≤ 255) (b0 : 0 ≤ b) (b1 : b ≤ 255) (c0 : 0 ≤ c) (c1 : c ≤ 255) (d0 : 0 ≤ d) (d1 : d ≤ 255) :
    Calls Try.prog 5 #[.int .u8 a, .int .u8 b, .int .u8 c, .int .u8 d, .int .i64 at_] w fun e w' => e = .returned (.bool true) ∧ Below w.heap.size w w' := by
  have hx0 : 0 ≤ a % 20 := by omega
  have hx1 : a % 20 ≤ 19 := by omega
  have hy0 : 0 ≤ b % 20 := by omega
  have hy1 : b % 20 ≤ 19 := by omega
  have hz0 : 0 ≤ c % 20 := by omega
  have hz1 : c % 20 ≤ 19 := by omega
  have hv0 : 0 ≤ d % 20 := by omega
  have hv1 : d % 20 ≤ 19 := by omega
  obtain ⟨hb, hcase⟩ : ∃ hb : Bool, (c % 20 ≤ d % 20 ∧ a % 20 ≤ c % 20 ∧ d % 20 ≤ b % 20 ∧ hb = true) ∨ (c % 20 ≤ d % 20 ∧ a % 20 ≤ c % 20 ∧ decide (d % 20 ≤ b % 20) = false ∧ hb = false) ∨
      (c % 20 ≤ d % 20 ∧ decide (a % 20 ≤ c % 20) = false ∧ hb = false ∧ True) ∨ (decide (c % 20 ≤ d % 20) = false ∧ hb = false ∧ True ∧ True) := by
    by_cases p1 : c % 20 ≤ d % 20 <;> by_cases p2 : a % 20 ≤ c % 20 <;> by_cases p3 : d % 20 ≤ b % 20 <;> simp [p1, p2, p3]
  have HH : Hid (hb = (decide (a % 20 ≤ c % 20) && decide (c % 20 ≤ d % 20) && decide (d % 20 ≤ b % 20))) := by
    unfold Hid
    rcases hcase with ⟨p1, p2, p3, rfl⟩ | ⟨p1, p2, p3, rfl⟩ | ⟨p1, p2, rfl, _⟩ | ⟨p1, rfl, _⟩ <;> simp at * <;> omega
  have Hcase := Lib.hid hcase
  clear hcase
  go_enter Try.func5, Try.ntmps5
  go_upto_region 2 with (fail)
  go_cut [13, 14, 15] (fun s13 s14 s15 wx => s13 = .int .i64 0 ∧ s14 = .bool false ∧ s15 = .bool hb ∧ RowB wx w.heap.size 44 #[.int .i64 (a % 20), .int .i64 (b % 20)] ∧ RowB wx (w.heap.size + 1) 44 #[.int .i64 (c % 20), .int .i64 (d % 20)] ∧ Below w.heap.size w wx)
  case first =>
    rcases Hcase.out with ⟨p1, p2, p3, rfl⟩ | ⟨p1, p2, p3, rfl⟩ | ⟨p1, p2, rfl, p3⟩ | ⟨p1, rfl, p2, p3⟩
    all_goals
      go_quiet (fail)
      go_wp2
      go_meet
      refine ⟨rfl, rfl, rfl, ?_, ?_, ?_⟩
      · exact (RowB.new w 44 _).alloc _
      · exact RowB.new' _ 44 _ (by simp)
      · exact below_drewN (((Below.refl _ _).alloc (Nat.le_refl _) _).alloc (by simp) _) _
  case rest =>
    obtain ⟨rfl, rfl, rfl, hq1, hq2, hq3⟩ := hcut
    have HQ := Lib.hid (And.intro hq1 (And.intro hq2 hq3))
    clear hq1 hq2 hq3
    go_wp2_with fail
    go_loopw [13, 14, 16, 17, 52] (fun l bo _ _ i wr => ∃ (k : Nat) (L : Int) (B : Bool), k ≤ 20 ∧ i = .int .i64 k ∧ l = .int .i64 L ∧ bo = .bool B ∧ L = lgTo (a % 20) (b % 20) k ∧ (B = true ↔ max (a % 20) (c % 20) < min (min (b % 20) (d % 20)) k) ∧
        RowB wr w.heap.size 44 #[.int .i64 (a % 20), .int .i64 (b % 20)] ∧ RowB wr (w.heap.size + 1) 44 #[.int .i64 (c % 20), .int .i64 (d % 20)] ∧ Below w.heap.size w wr) (fun _ _ _ _ i _ => 20 - (intOf i).toNat)
    case atStart =>
      refine ⟨0, 0, false, by omega, rfl, rfl, rfl, by unfold lgTo; omega, by simp; omega, ?_, ?_, ?_⟩
      · exact HQ.out.1
      · exact HQ.out.2.1
      · exact HQ.out.2.2
    case round =>
      obtain ⟨k, L, B, hk, rfl, rfl, rfl, hL, hB, hr1, hr2, hbw⟩ := hrel
      have hL0 : 0 ≤ L := by unfold lgTo at hL; omega
      have hL1 : L ≤ 20 := by unfold lgTo at hL; omega
      have HL := Lib.hid hL
      have HBB := Lib.hid hB
      obtain ⟨q0, q1⟩ := cells2 hr1
      obtain ⟨q2, q3⟩ := cells2 hr2
      have HR1 := Lib.hid hr1
      have HR2 := Lib.hid hr2
      have HB := Lib.hid hbw
      clear hr1 hr2 hbw hL hB
      by_cases hlt : k < 20
      · have hbz : w.heap.size + 1 < wr.heap.size := HR2.out.lt
        go_wp2_with fail
        all_goals
          refine (has_any _ _ _ _).mono ?_
          rintro e w1 ⟨rfl, hb⟩
          have hr1 := HR1.out.below hb (by omega)
          have hr2 := HR2.out.below hb (by omega)
          obtain ⟨k0, k1⟩ := cells2 hr1
          obtain ⟨k2, k3⟩ := cells2 hr2
          have KR1 := Lib.hid hr1
          have KR2 := Lib.hid hr2
          have KB := Lib.hid (HB.out.trans (hb.mono HB.out.size))
          clear hr1 hr2 hb q0 q1 q2 q3
          cases B
          all_goals
            go_wp2_with fail
            all_goals
              go_roundw
              case rel => exact ⟨k + 1, _, _, by omega, by go_num, rfl, rfl, by rw [HL.out]; unfold lgTo; omega, by have := HBB.out; simp at this ⊢; omega, KR1.out, KR2.out, KB.out⟩
              case measure => simp [intOf]; omega
      · obtain rfl : k = 20 := by omega
        have hbz : w.heap.size + 1 < wr.heap.size := HR2.out.lt
        go_wp2_with fail
        refine (cover2 (a % 20) (b % 20) (c % 20) (d % 20) wr.heap.size _ ?_ ?_ ?_ ?_ ?_).mono ?_
        iterate 4 (simp [go_sem])
        · simp
        rintro e w1 ⟨rfl, hb⟩
        have hb' := below_alloc hb
        have hr1 := HR1.out.below hb' (by omega)
        have hr2 := HR2.out.below hb' (by omega)
        obtain ⟨k0, k1⟩ := cells2 hr1
        obtain ⟨k2, k3⟩ := cells2 hr2
        have KR1 := Lib.hid hr1
        have KR2 := Lib.hid hr2
        have KB := Lib.hid (HB.out.trans (hb'.mono HB.out.size))
        have hz := hb'.size
        clear hr1 hr2 hb hb' q0 q1 q2 q3
        have C25 : ∀ W : World, Calls Try.prog 25 #[sp (a % 20) (b % 20)] W fun e w' => e = .returned (.int .i64 L) ∧ Below W.heap.size W w' := fun W =>
          (long_any (a % 20) (b % 20) W hx0 hy0 (by omega) (by omega)).mono fun e w' ⟨he, hb⟩ => ⟨he.trans (ri (by rw [HL.out]; unfold lgTo; split <;> omega)), hb⟩
        have C26 : ∀ (p q r s : Int) (W : World), (B = true ↔ max p r < min q s) → Calls Try.prog 26 #[sp p q, sp r s] W fun e w' => e = .returned (.bool B) ∧ Below W.heap.size W w' := fun p q r s W h =>
          (meets_any p q r s W).mono fun e w' ⟨he, hb⟩ => ⟨he.trans (rb (by rw [h, decide_eq_true_iff])), hb⟩
        have C27 : ∀ W : World, Calls Try.prog 27 #[sp (a % 20) (b % 20), sp (c % 20) (d % 20)] W fun e w' => e = .returned (.bool hb) ∧ Below W.heap.size W w' := fun W =>
          (holds_any (a % 20) (b % 20) (c % 20) (d % 20) W).mono fun e w' ⟨he, hb⟩ => ⟨he.trans (rb (by rw [HH.out])), hb⟩
        have D25 := Lib.hid C25
        have D26 := Lib.hid C26
        have D27 := Lib.hid C27
        clear C25 C26 C27
        go_wp2_with fail
        have eU : min (a % 20) (c % 20) = if c % 20 < a % 20 then c % 20 else a % 20 := by split <;> omega
        have eV : max (b % 20) (d % 20) = if b % 20 < d % 20 then d % 20 else b % 20 := by split <;> omega
        have hu0 : (w1.alloc (.cells #[.int .i64 (min (a % 20) (c % 20)), .int .i64 (max (b % 20) (d % 20))] 44)).cell? ⟨w1.heap.size, 0, none⟩ = some (.int .i64 (if c % 20 < a % 20 then c % 20 else a % 20)) := by
          rw [World.cell?_alloc_at _ _ _ _ rfl, eU]; rfl
        have hu1 : (w1.alloc (.cells #[.int .i64 (min (a % 20) (c % 20)), .int .i64 (max (b % 20) (d % 20))] 44)).cell? ⟨w1.heap.size, 1, none⟩ = some (.int .i64 (if b % 20 < d % 20 then d % 20 else b % 20)) := by
          rw [World.cell?_alloc_at _ _ _ _ rfl, eV]; rfl
        have hm0 := Lib.hid hx1
        have hm1 := Lib.hid hy1
        have hm2 := Lib.hid hz1
        have hm3 := Lib.hid hv1
        have E26 : Hid ((B = true ↔ max (a % 20) (c % 20) < min (b % 20) (d % 20)) ∧ (B = true ↔ max (c % 20) (a % 20) < min (d % 20) (b % 20))) := by
          have h := HBB.out
          unfold Hid
          rw [h]
          constructor <;> constructor <;> intro _ <;> omega
        clear eU eV hx0 hx1 hy0 hy1 hz0 hz1 hv0 hv1 a0 a1 b0 b1 c0 c1 d0 d1 hL0 hL1 hlt hk
        clear HH Hcase HQ HR1 HR2 HB KR1 KR2 HL HBB
        obtain ⟨W1, hW1⟩ : ∃ W1, W1 = w1.alloc (.cells #[.int .i64 (min (a % 20) (c % 20)), .int .i64 (max (b % 20) (d % 20))] 44) := ⟨_, rfl⟩
        have KW : Hid (Below w.heap.size w W1) := by
          unfold Hid; rw [hW1]; exact KB.out.alloc KB.out.size _
        have z0 := cell_regrown (hW1 ▸ (World.cell?_alloc_past _ _ _ (by omega)).trans k0 : W1.cell? ⟨w.heap.size, 0, none⟩ = some (.int .i64 (a % 20)))
        have z1 := cell_regrown (hW1 ▸ (World.cell?_alloc_past _ _ _ (by omega)).trans k1 : W1.cell? ⟨w.heap.size, 1, none⟩ = some (.int .i64 (b % 20)))
        have z2 := cell_regrown (hW1 ▸ (World.cell?_alloc_past _ _ _ (by omega)).trans k2 : W1.cell? ⟨w.heap.size + 1, 0, none⟩ = some (.int .i64 (c % 20)))
        have z3 := cell_regrown (hW1 ▸ (World.cell?_alloc_past _ _ _ (by omega)).trans k3 : W1.cell? ⟨w.heap.size + 1, 1, none⟩ = some (.int .i64 (d % 20)))
        have z4 := cell_regrown (hW1 ▸ hu0 : W1.cell? ⟨w1.heap.size, 0, none⟩ = _)
        have z5 := cell_regrown (hW1 ▸ hu1 : W1.cell? ⟨w1.heap.size, 1, none⟩ = _)
        rw [← hW1]
        clear hW1 hu0 hu1 k0 k1 k2 k3 hz hbz KB
        simp only [List.append_eq, List.cons_append, List.nil_append]
        by_cases p1 : a % 20 ≤ at_
        · have C23 : ∀ W : World, Calls Try.prog 23 #[sp (a % 20) (b % 20), .int .i64 at_] W fun e w' => e = .returned (.bool (decide (at_ < b % 20))) ∧ Below W.heap.size W w' := fun W =>
            (has_any (a % 20) (b % 20) at_ W).mono fun e w' ⟨he, hb⟩ => ⟨he.trans (rb (by simp [p1])), hb⟩
          have D23 := Lib.hid C23
          clear C23
          refine wp_region_quiet_below (by kernel_rfl) (by kernel_rfl) ?_
          repeat (go_big_quiet_step (first
            | (go_at_call 13; exact Calls.regrown_of (awake_any _))
            | (go_at_call 25; exact Calls.regrown_of (D25.out _))
            | (go_at_call 26; exact Calls.regrown_of (D26.out _ _ _ _ _ E26.out.1))
            | (go_at_call 26; exact Calls.regrown_of (D26.out _ _ _ _ _ E26.out.2))
            | (go_at_call 27; exact Calls.regrown_of (D27.out _))
            | (go_at_call 23; exact Calls.regrown_of (D23.out _))
            | (go_at_call 24; exact Calls.regrown_of (cover0 _))))
          refine wpQuiet_nil ?_
          intro _ hw'
          obtain ⟨⟨dq, osq⟩, hw''⟩ := hw'
          subst hw''
          have KF := Lib.hid (KW.out.trans ((below_regrown W1 dq osq).mono KW.out.size))
          go_wp2
          all_goals
            go_ret
            exact ⟨rfl, KF.out⟩
        · have p2 : decide (a % 20 ≤ at_) = false := by simpa using p1
          have C23 : ∀ W : World, Calls Try.prog 23 #[sp (a % 20) (b % 20), .int .i64 at_] W fun e w' => e = .returned (.bool false) ∧ Below W.heap.size W w' := fun W =>
            (has_any (a % 20) (b % 20) at_ W).mono fun e w' ⟨he, hb⟩ => ⟨he.trans (rb (by simp [p2])), hb⟩
          clear p1
          have D23 := Lib.hid C23
          clear C23
          refine wp_region_quiet_below (by kernel_rfl) (by kernel_rfl) ?_
          repeat (go_big_quiet_step (first
            | (go_at_call 13; exact Calls.regrown_of (awake_any _))
            | (go_at_call 25; exact Calls.regrown_of (D25.out _))
            | (go_at_call 26; exact Calls.regrown_of (D26.out _ _ _ _ _ E26.out.1))
            | (go_at_call 26; exact Calls.regrown_of (D26.out _ _ _ _ _ E26.out.2))
            | (go_at_call 27; exact Calls.regrown_of (D27.out _))
            | (go_at_call 23; exact Calls.regrown_of (D23.out _))
            | (go_at_call 24; exact Calls.regrown_of (cover0 _))))
          refine wpQuiet_nil ?_
          intro _ hw'
          obtain ⟨⟨dq, osq⟩, hw''⟩ := hw'
          subst hw''
          have KF := Lib.hid (KW.out.trans ((below_regrown W1 dq osq).mono KW.out.size))
          go_wp2
          all_goals
            go_ret
            exact ⟨rfl, KF.out⟩
end Go.Proofs.Ytendbkbjmibchaa
