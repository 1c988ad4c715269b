/- Contracts: the reference says of two rows of the same tokens that they are the same. -/
import Derived.Test.YthlkjfkgdijfdaaGreatDoorXC
import Derived.Laws.StructEq
import Derived.Lib.QuietBelow
namespace Go.Proofs.YthlkjfkgdijfdaaGreatDoor
open Go.RowKit Go.Op

theorem neq48 (a b : Int) (c d : ByteArray) (w : World) : (binOp .neq 48 (.agg #[.int .i64 a, .int .i64 b, .string c, .string d]) (.agg #[.int .i64 a, .int .i64 b, .string c, .string d])).run Tryz.prog w = .ok (.bool false) w := by
  have u3 := Tryz.underlying3
  have a3 := Tryz.isAgg3
  have z3 := Tryz.sizeOf3
  have u9 := Tryz.underlying9
  have a9 := Tryz.isAgg9
  have z9 := Tryz.sizeOf9
  have hS : Tryz.prog.underlying 48 = some (.struct (Tryz.prog.fieldsOf 48)) := by kernel_rfl
  have hp : Tryz.prog.stoodInHeld 48 = false := by kernel_rfl
  rw [run_neq_struct, show (10000 : Nat) = 9999 + 1 from rfl, run_equalIn_agg w 9999 48 _ _ hS hp]
  simp only [Program.fieldsOf, Tryz.underlying48]
  go_simp

set_option maxHeartbeats 4000000 in
set_option maxRecDepth 100000 in
theorem tsame_any (l : List Tok) (A B : Option Addr) (c1 c2 : Nat) (w : World) (hA : TokAt w A l) (hB : TokAt w B l) (hl : l.length ≤ 4000) (h1 : l.length ≤ c1) (h2 : l.length ≤ c2) :
    Calls Tryz.prog 10 #[.slice A l.length c1, .slice B l.length c2] w fun e w' => e = .returned (.bool true) ∧ Below w.heap.size w w' := by
  have HA := Lib.hid hA
  have HB := Lib.hid hB
  obtain ⟨N, hN⟩ : ∃ N, N = l.length := ⟨_, rfl⟩
  rw [← hN] at h1 h2 hl ⊢
  have HN := Lib.hid hN
  clear hA hB hN
  go_enter Tryz.func10, Tryz.ntmps10
  go_wp2_with fail
  go_loopg [5] N (fun kx x wr => ∃ i : Nat, x = .int .i64 i ∧ i ≤ N ∧ N - i ≤ kx ∧ Hid (Below w.heap.size w wr))
  case atStart => exact ⟨0, rfl, by omega, by omega, Below.refl _ _⟩
  case round =>
    obtain ⟨i, rfl, hi, hkx, HW⟩ := hrel
    by_cases hlt : i < N
    · have hlz : (i : Int) < (N : Int) := by omega
      have hil : i < l.length := by have := HN.out; omega
      obtain ⟨g, rfl, hg, hc⟩ := (HA.out.below HW.out) (by omega)
      obtain ⟨g', rfl, hg', hc'⟩ := (HB.out.below HW.out) (by omega)
      obtain ⟨q0, q1, q2, q3⟩ := hc i hil
      obtain ⟨r0, r1, r2, r3⟩ := hc' i hil
      have hq := fun w => neq48 l[i].kind l[i].at_ l[i].lead l[i].text w
      generalize (l[i].kind : Int) = kd at *
      generalize (l[i].at_ : Int) = a at *
      generalize l[i].lead = ld at *
      generalize l[i].text = tx at *
      clear hc hc'
      go_wp2_with fail
      go_quiet (fail)
      go_wp2_with fail
      go_roundg (N - (i + 1))
      case measure => omega
      case rel => exact ⟨i + 1, by simp, by omega, by omega, below_drewN HW.out _⟩
    · obtain rfl : i = N := by omega
      have hlz : ¬ (i : Int) < (i : Int) := by omega
      clear hlt
      go_wp2_with fail
      go_ret
      exact ⟨by simp, HW.out⟩
end Go.Proofs.YthlkjfkgdijfdaaGreatDoor
