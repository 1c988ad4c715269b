/- The document's own word on whether edits are sound. -/
import Derived.Test.YtendbkbjmibchaaX
namespace Go.Proofs.Ytendbkbjmibchaa
open Go.RowKit

set_option maxHeartbeats 4000000 in
set_option maxRecDepth 100000 in
theorem rsound_edits (A : Option Addr) (cap : Nat) (es : List Ed) (n : Int) (w : World) (hx : Eds w w.heap.size A es) (hl : es.length ≤ 100000) :
    Calls Try.prog 36 #[.slice A es.length cap, .int .i64 n] w fun e w' => e = .returned (.int .i64 (snd es n)) ∧ Below w.heap.size w w' := by
  have Hx := Lib.hid hx
  clear hx
  by_cases hc : 512 < es.length
  · have hc' : (512 : Int) < (es.length : Int) := by omega
    have E : Hid (snd es n = 5) := by unfold Hid snd; rw [if_pos hc]
    go_enter Try.func36, Try.ntmps36
    go_wp2
    go_ret
    exact ⟨ri E.out.symm, Below.refl _ _⟩
  · have hc' : (es.length : Int) ≤ 512 := by omega
    have E : Hid (snd es n = sndGo n (prv es 0) (es.drop 0)) := by unfold Hid snd; rw [if_neg hc, prv_zero]; rfl
    clear hc
    go_enter Try.func36, Try.ntmps36
    go_wp2_with fail
    go_loopw [4, 5, 6] (fun _ i _ wr => ∃ k : Nat, k ≤ es.length ∧ i = .int .i64 k ∧ Below w.heap.size w wr ∧ snd es n = sndGo n (prv es k) (es.drop k)) (fun _ i _ _ => es.length - (intOf i).toNat)
    case atStart => exact ⟨0, by omega, rfl, Below.refl _ _, E.out⟩
    case round =>
      obtain ⟨k, hk, rfl, hb, hs⟩ := hrel
      have HB := Lib.hid hb
      have HS := Lib.hid hs
      clear hb hs
      by_cases hlt : k < es.length
      · obtain ⟨b, off, rfl, hbl, hcell⟩ := (Hx.out.below HB.out) (by omega)
        have hbw : b < wr.heap.size := Nat.lt_of_lt_of_le hbl HB.out.size
        have HN := Lib.hid (HS.out.trans (sndGo_at n es k hlt))
        have HC := Lib.hid hcell
        obtain ⟨q0, q1, q2⟩ := hcell k hlt
        obtain ⟨y, hy⟩ : ∃ y, y = es[k] := ⟨_, rfl⟩
        rw [← hy] at q0 q1 q2
        have HY := Lib.hid hy
        clear hcell hy
        have HB' := Lib.hid (HB.out.alloc HB.out.size (.cells #[.int .i64 y.f, .int .i64 y.t, .string y.x] 68))
        by_cases g1 : y.f < 0 ∨ y.t < y.f ∨ n < y.t
        · have R : Hid (snd es n = 6) := by unfold Hid; rw [HN.out, ← HY.out, if_pos g1]
          go_wp2_with fail
          all_goals
            go_ret
            exact ⟨ri R.out.symm, HB'.out⟩
        · have G1 := Lib.hid g1
          have h0 : 0 ≤ y.f := by omega
          have h1 : y.f ≤ y.t := by omega
          have h2 : y.t ≤ n := by omega
          clear g1
          by_cases g2 : y.f = y.t ∧ y.x.size = 0
          · have R : Hid (snd es n = 1) := by unfold Hid; rw [HN.out, ← HY.out, if_neg G1.out, if_pos g2]
            have g3 : (y.f == y.t) = true := by simpa using g2.1
            have g4 : (y.x.size == 0) = true := by simpa using g2.2
            clear g2
            go_wp2_with fail
            all_goals
              go_ret
              exact ⟨ri R.out.symm, HB'.out⟩
          · have G2 := Lib.hid g2
            clear g2
            by_cases g3 : y.f = y.t
            case' pos =>
              have g4 : (y.x.size == 0) = false := by rw [beq_eq_false_iff_ne]; exact fun h => G2.out ⟨g3, h⟩
              have g5 : (y.f == y.t) = true := by simpa using g3
              clear g3
            case' neg =>
              have g5 : (y.f == y.t) = false := by simpa using g3
              clear g3
            all_goals
              by_cases hk0 : k = 0
              · have hd0 : decide (0 < k) = false := by simp; omega
                have R : Hid (snd es n = sndGo n (prv es (k + 1)) (es.drop (k + 1))) := by
                  unfold Hid; rw [HN.out, ← HY.out, if_neg G1.out, if_neg G2.out]
                  have : prv es k = none := by rw [hk0, prv_zero]
                  rw [this]; rfl
                clear hk0
                go_wp2_with fail
                go_quiet (fail)
                go_wp2
                go_roundw
                case rel => exact ⟨k + 1, by omega, by go_num, below_drewN HB'.out _, R.out⟩
                case measure => simp [intOf]; omega
              · have hkp : 0 < k := by omega
                obtain ⟨z, hz⟩ : ∃ z, z = es[k - 1].t := ⟨_, rfl⟩
                have q3 := (HC.out (k - 1) (by omega)).2.1
                rw [← hz] at q3
                have HP : Hid (prv es k = some z) := by unfold Hid prv; rw [dif_pos ⟨hkp, by omega⟩, hz]
                have hkp' : (1 : Int) ≤ (k : Int) := by omega
                have hkp2 : (0 : Int) < (k : Int) := by omega
                have hkp3 : (k : Int) - 1 < (es.length : Int) := by omega
                clear hz hk0
                by_cases g6 : y.f ≤ z
                · have R : Hid (snd es n = 7) := by
                    unfold Hid; rw [HN.out, ← HY.out, if_neg G1.out, if_neg G2.out, HP.out, if_pos (by simpa [near] using g6)]
                  go_wp2_with fail
                  go_quiet (fail)
                  go_wp2
                  go_ret
                  exact ⟨ri R.out.symm, below_drewN HB'.out _⟩
                · have R : Hid (snd es n = sndGo n (prv es (k + 1)) (es.drop (k + 1))) := by
                    unfold Hid; rw [HN.out, ← HY.out, if_neg G1.out, if_neg G2.out, HP.out, if_neg (by simpa [near] using g6)]
                  have g6' : decide (y.f ≤ z) = false := by simpa using g6
                  clear g6
                  go_wp2_with fail
                  go_quiet (fail)
                  go_wp2
                  go_roundw
                  case rel => exact ⟨k + 1, by omega, by go_num, below_drewN HB'.out _, R.out⟩
                  case measure => simp [intOf]; omega
      · obtain rfl : k = es.length := by omega
        have R : Hid (snd es n = 0) := by unfold Hid; rw [HS.out, List.drop_length]; unfold sndGo; rfl
        go_wp2
        go_ret
        exact ⟨ri R.out.symm, HB.out⟩
end Go.Proofs.Ytendbkbjmibchaa
