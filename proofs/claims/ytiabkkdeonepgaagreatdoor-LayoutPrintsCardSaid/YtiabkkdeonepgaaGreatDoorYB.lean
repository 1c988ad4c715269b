import Derived.Test.YtiabkkdeonepgaaGreatDoorXI
namespace Go.Proofs.YtiabkkdeonepgaaGreatDoor
open Go.RowKit
namespace Pg
open Ps
set_option maxHeartbeats 4000000 in
set_option maxRecDepth 100000 in
theorem rdepth_any : ∀ (n : Nat) (h : Hd) (k : Fo) (A : Option Addr) (cap : Nat) (P : Nat → Prop) (w : World), k.deep ≤ n → n ≤ 1000000000001 → k.len ≤ 1000001 → k.wide ≤ 1000001 → KV w P k A cap →
    Calls Tryz.prog 23 #[nvv h A k.len cap] w fun e w' => e = .returned (.int .i64 ((1 + k.deep : Nat) : Int)) ∧ Below w.heap.size w w' := by
  intro n
  induction n using Nat.strongRecOn with
  | _ n ih =>
  intro h k A cap P w hd hn hl hw hk
  have HK := Lib.hid hk
  have IH := Lib.hid ih
  have B0 := Lib.hid (bel1 w (.cells #[.int .i64 h.kind, .int .i64 h.fro, .int .i64 h.til, .string h.word, .int .i64 h.at_, .slice A k.len cap] 25))
  have R0 := Lib.hid (RowB.new w 25 (ncc h A k.len cap))
  obtain ⟨n0, hn0⟩ : ∃ n0, n0 = k.len := ⟨_, rfl⟩
  obtain ⟨d0, hd0⟩ : ∃ d0, d0 = k.deep := ⟨_, rfl⟩
  have HN := Lib.hid hn0
  have HD := Lib.hid hd0
  have HW := Lib.hid hw
  rw [← hd0] at hd ⊢
  rw [← hn0] at hl B0 R0 ⊢
  clear hk hn0 hd0 hw ih
  go_enter Tryz.func23, Tryz.ntmps23
  go_wp2_with fail
  go_loopg [3, 4] (n0 + 1) (fun kx s3 s4 wr => ∃ (i m : Nat), s4 = .int .i64 i ∧ s3 = .int .i64 ((m : Nat) : Int) ∧ n0 - i ≤ kx ∧ i ≤ n0 ∧ 1 ≤ m ∧ m ≤ 1 + d0 ∧ Hid (max m (1 + (k.drop i).deep) = 1 + d0) ∧ Hid (Below w.heap.size w wr) ∧ Hid (RowB wr w.heap.size 25 (ncc h A n0 cap)))
  case atStart => exact ⟨0, 1, rfl, rfl, by omega, by omega, by omega, by omega, by unfold Hid; rw [Fo.drop_zero, HD.out]; omega, B0.out, R0.out⟩
  case round =>
    obtain ⟨i, m, rfl, rfl, hkx, hin, hm1, hmd, HM, HB, RA⟩ := hrel
    have ra := RA.out.cell
    by_cases hi : i < n0
    · have hil : (i : Int) < (n0 : Int) := by omega
      have hil2 : decide ((i : Int) < (n0 : Int)) = true := decide_eq_true hil
      obtain ⟨h', kk, e⟩ := Fo.drop_cons k i (by rw [← HN.out]; exact hi)
      obtain ⟨g, o, A2, c2, rfl, hP, hg, hkk, c0, c1, c2', c3, c4, c5⟩ := KV.nth (HK.out.below HB.out) e
      obtain ⟨b1, b2, b3⟩ := Fo.drop_bounds k i _ _ _ e
      have hdd : (k.drop i).deep = max (1 + kk.deep) (k.drop (i + 1)).deep := by rw [e, fo_deep_cons]
      obtain ⟨dk, hdk⟩ : ∃ dk, dk = 1 + kk.deep := ⟨_, rfl⟩
      obtain ⟨d2, hd2⟩ : ∃ d2, d2 = dk + 1 := ⟨_, rfl⟩
      obtain ⟨j, hj⟩ : ∃ j, j = i + 1 := ⟨_, rfl⟩
      have hdk2 : dk ≤ d0 := by rw [← HD.out] at b3; omega
      have e1 : IntKind.i64.wrap ((i : Int) + 1) = (j : Int) := by rw [IntKind.wrap_i64]; omega
      have e2 : IntKind.i64.wrap ((dk : Int) + 1) = (d2 : Int) := by rw [IntKind.wrap_i64]; omega
      have CC := Lib.hid (show Calls Tryz.prog 23 #[nvv h' A2 kk.len c2] wr fun e w'' => e = .returned (.int .i64 (dk : Int)) ∧ Below wr.heap.size wr w'' by
        rw [hdk]
        exact IH.out kk.deep (by rw [← HD.out] at b3; omega) h' kk A2 c2 P wr (Nat.le_refl _) (by rw [← HD.out] at b3; omega) (by have := HW.out; omega) (by have := HW.out; omega) hkk)
      have HM2 : Hid (max (max m d2) (1 + (k.drop j).deep) = 1 + d0) := by
        have := HM.out
        rw [hdd, ← hdk, ← hj] at this
        unfold Hid
        omega
      have hd2b : d2 ≤ 1 + d0 := by omega
      have HJ := Lib.hid hj
      clear e hkk b1 b2 b3 hdd hdk hj HM hd2 hdk2
      go_wp2_with fail
      refine CC.out.mono ?_
      rintro e2 w2 ⟨rfl, hb2⟩
      have B2 := Lib.hid (HB.out.trans (hb2.mono HB.out.size))
      have R2 := Lib.hid (RA.out.below hb2 RA.out.lt)
      clear hb2 CC HB RA ra
      by_cases hgt : m < d2
      · have g1 : (m : Int) < (d2 : Int) := by omega
        have g2 : decide ((d2 : Int) > (m : Int)) = true := decide_eq_true g1
        have g3 : decide (m < d2) = true := decide_eq_true hgt
        go_wp2_with fail
        have hj := HJ.out
        go_roundg (n0 - j)
        case measure => omega
        case rel => exact ⟨j, d2, rfl, rfl, by omega, by omega, by omega, by omega, by have := HM2.out; unfold Hid; omega, B2.out, R2.out⟩
      · have g2 : decide ((d2 : Int) > (m : Int)) = false := decide_eq_false (by omega)
        have g3 : decide (m < d2) = false := decide_eq_false hgt
        go_wp2_with fail
        have hj := HJ.out
        go_roundg (n0 - j)
        case measure => omega
        case rel => exact ⟨j, m, rfl, rfl, by omega, by omega, by omega, by omega, by have := HM2.out; unfold Hid; omega, B2.out, R2.out⟩
    · have hi2 : i = n0 := by omega
      have hm : m = 1 + d0 := by
        have := HM.out
        rw [Fo.drop_end k i (by rw [← HN.out]; omega)] at this
        simp only [Fo.deep] at this
        omega
      have hd1 : decide ((i : Int) < (n0 : Int)) = false := decide_eq_false (by omega)
      have hd2 : decide (i < n0) = false := decide_eq_false (by omega)
      have HE := Lib.hid hm
      clear hi hi2 HM hm
      go_wp2_with fail
      go_ret
      exact ⟨by rw [HE.out]; rfl, HB.out⟩
end Pg
end Go.Proofs.YtiabkkdeonepgaaGreatDoor
