/- Contracts: whether a value may be, by the document. -/
import Derived.Test.YtbjlhdjcdinmhaaDoorQS
import Derived.Deep.CutRange
namespace Go.Proofs.YtbjlhdjcdinmhaaDoor
open Go.RowKit Go.Op
namespace Vm
def tB (kd kn : Int) (sz : Nat) : Bool := decide (kd < 1) || decide (kd > 4) || (decide (kd ≠ 2) && decide (sz ≠ 0)) || (decide (kd = 2 ∨ kd = 3) && decide (kn ≠ 0)) || (decide (kd = 4) && decide (kn < 0))
def uB (kd : Int) (m n : Nat) : Bool := (decide (kd ≠ 3) && decide (m + n ≠ 0)) || decide (m ≠ n)
theorem size_pos {s : ByteArray} (h : ¬ s = ByteArray.empty) : (s.size : Int) > 0 := by
  rcases Nat.eq_zero_or_pos s.size with e | e
  · exact absurd (ByteArray.size_eq_zero_iff.1 e) h
  · omega
set_option maxHeartbeats 16000000 in
set_option maxRecDepth 100000 in
theorem rright_a (kd kn : Int) (ks : ByteArray) (w : World) (An : Option Addr) (m cn : Nat) (A : Option Addr) (n c : Nat) (_hm : m ≤ 1000001) (_hn : n ≤ 1000001)
    (h : tB kd kn ks.size = true) : Calls Tryd.prog 14 #[.agg (varr ⟨kd, kn, ks⟩ An m cn A n c)] w fun e w' => e = .returned (.bool false) ∧ Below w.heap.size w w' := by
  have B0 := Lib.hid (bel1 w (.cells (varr ⟨kd, kn, ks⟩ An m cn A n c) 25))
  have R0 := Lib.hid (RowB.new w 25 (varr ⟨kd, kn, ks⟩ An m cn A n c))
  have rc := R0.out.cell
  have HH := Lib.hid h
  clear h
  go_enter Tryd.func14, Tryd.ntmps14
  go_upto_region 1 with fail
  obtain ⟨W, hW⟩ : ∃ W, W = w.alloc (.cells (varr ⟨kd, kn, ks⟩ An m cn A n c) 25) := ⟨_, rfl⟩
  rw [← hW] at B0 R0 rc ⊢
  clear hW
  go_cut [47] from 4 to 46 (fun s47 wx => s47 = .bool (tB kd kn ks.size) ∧ wx = W)
  case first =>
    clear R0 B0 HH
    by_cases h1 : kd < 1
    · have HF : Hid (tB kd kn ks.size = true) := by simp [Hid, tB, h1]
      go_wp2_with fail
      go_meet
      exact ⟨by rw [HF.out], rfl⟩
    by_cases h2 : kd > 4
    · have HF : Hid (tB kd kn ks.size = true) := by simp [Hid, tB, h2]
      go_wp2_with fail
      go_meet
      exact ⟨by rw [HF.out], rfl⟩
    have h5 : kd = 1 ∨ kd = 2 ∨ kd = 3 ∨ kd = 4 := by omega
    clear h1 h2
    rcases h5 with rfl | rfl | rfl | rfl
    · by_cases hz : ks = ByteArray.empty
      case neg =>
        have hz2 : (ks.size : Int) > 0 := size_pos hz
        have hz3 : ks.size ≠ 0 := by omega
        have HF : Hid (tB 1 kn ks.size = true) := by simp [Hid, tB, hz3]
        clear hz3
        go_wp2_with fail
        go_meet
        exact ⟨by rw [HF.out], rfl⟩
      subst hz
      have HF : Hid (tB 1 kn ByteArray.empty.size = false) := by simp [Hid, tB]; try omega
      go_wp2_with fail
      go_meet
      exact ⟨by rw [HF.out], rfl⟩
    · by_cases hk : kn = 0
      case neg =>
        have hk1 : (kn != 0) = true := by rw [bne_iff_ne]; exact hk
        have HF : Hid (tB 2 kn ks.size = true) := by simp [Hid, tB, hk]
        clear hk
        go_wp2_with fail
        go_meet
        exact ⟨by rw [HF.out], rfl⟩
      subst hk
      have HF : Hid (tB 2 0 ks.size = false) := by simp [Hid, tB]; try omega
      go_wp2_with fail
      go_meet
      exact ⟨by rw [HF.out], rfl⟩
    · by_cases hz : ks = ByteArray.empty
      case neg =>
        have hz2 : (ks.size : Int) > 0 := size_pos hz
        have hz3 : ks.size ≠ 0 := by omega
        have HF : Hid (tB 3 kn ks.size = true) := by simp [Hid, tB, hz3]
        clear hz3
        go_wp2_with fail
        go_meet
        exact ⟨by rw [HF.out], rfl⟩
      subst hz
      by_cases hk : kn = 0
      case neg =>
        have hk1 : (kn != 0) = true := by rw [bne_iff_ne]; exact hk
        have HF : Hid (tB 3 kn ByteArray.empty.size = true) := by simp [Hid, tB, hk]
        clear hk
        go_wp2_with fail
        go_meet
        exact ⟨by rw [HF.out], rfl⟩
      subst hk
      have HF : Hid (tB 3 0 ByteArray.empty.size = false) := by simp [Hid, tB]; try omega
      go_wp2_with fail
      go_meet
      exact ⟨by rw [HF.out], rfl⟩
    · by_cases hz : ks = ByteArray.empty
      case neg =>
        have hz2 : (ks.size : Int) > 0 := size_pos hz
        have hz3 : ks.size ≠ 0 := by omega
        have HF : Hid (tB 4 kn ks.size = true) := by simp [Hid, tB, hz3]
        clear hz3
        go_wp2_with fail
        go_meet
        exact ⟨by rw [HF.out], rfl⟩
      subst hz
      by_cases hk : kn < 0
      case pos =>
        have HF : Hid (tB 4 kn ByteArray.empty.size = true) := by simp [Hid, tB, hk]
        go_wp2_with fail
        go_meet
        exact ⟨by rw [HF.out], rfl⟩
      have HF : Hid (tB 4 kn ByteArray.empty.size = false) := by simp [Hid, tB]; omega
      go_wp2_with fail
      go_meet
      exact ⟨by rw [HF.out], rfl⟩
  case rest =>
  obtain ⟨rfl, rfl⟩ := hcut
  rw [HH.out]
  go_wp2_with fail
  (first | go_ret | go_ret2)
  exact ⟨rfl, B0.out⟩
end Vm
end Go.Proofs.YtbjlhdjcdinmhaaDoor
