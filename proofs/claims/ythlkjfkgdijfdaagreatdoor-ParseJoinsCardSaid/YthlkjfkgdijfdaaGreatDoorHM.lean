/- Contracts: the law's own look at a tree: apart. -/
import Derived.Test.YthlkjfkgdijfdaaGreatDoorHL
import Derived.Test.YthlkjfkgdijfdaaGreatDoorXI
namespace Go.Proofs.YthlkjfkgdijfdaaGreatDoor
open Go.RowKit
namespace Pg
open Ps
theorem empty_of {x : ByteArray} (h : x.size = 0) : x = ⟨#[]⟩ := by
  obtain ⟨⟨l⟩⟩ := x
  cases l with
  | nil => rfl
  | cons a t => simp [ByteArray.size] at h
theorem isEmpty_of {x : ByteArray} (h : ¬ x.size = 0) : x.toList.isEmpty = false := by
  rw [ByteArray.toList_eq]
  obtain ⟨⟨l⟩⟩ := x
  cases l with
  | nil => exact absurd rfl h
  | cons a t => rfl

set_option maxHeartbeats 8000000 in
set_option maxRecDepth 100000 in
theorem apart_any : ∀ (n : Nat) (h : Hd) (k : Fo) (A : Option Addr) (cap a t : Nat) (P : Nat → Prop) (w : World), k.deep ≤ n → k.len ≤ 1000001 → k.wide ≤ 1000001 → Apt (.one h k) a t → a ≤ 1000000 → t ≤ 1000000 → KV w P k A cap →
    Calls Tryz.prog 15 #[nvv h A k.len cap, .int .i64 a, .int .i64 t] w fun e w' => e = .returned (.bool true) ∧ Below w.heap.size w w' := by
  intro n
  induction n using Nat.strongRecOn with
  | _ n ih =>
  intro h k A cap a t P w hd hl hw hap ha ht hk
  obtain ⟨x1, x2, x3, x4, x5⟩ := h
  obtain ⟨p1, p2, p3, p4, _⟩ := hap
  dsimp only at p1 p2 p3 p4
  have B0 := Lib.hid (bel1 w (.cells (ncc ⟨x1, x2, x3, x4, x5⟩ A k.len cap) 25))
  have R0 := Lib.hid (RowB.new w 25 (ncc ⟨x1, x2, x3, x4, x5⟩ A k.len cap))
  unfold nodeOK at p1
  dsimp only at p1
  by_cases h0 : x1 = 0
  · subst h0
    rw [if_pos rfl] at p1
    obtain ⟨q1, q2⟩ := p1
    subst q1 q2
    have hk0 := p2 rfl
    rw [hk0] at B0 ⊢
    clear p2 p3 p4 hk hd hl hw R0 hk0 ih
    go_enter Tryz.func15, Tryz.ntmps15
    go_wp2_with fail
    go_ret
    exact ⟨rfl, B0.out⟩
  · rw [if_neg h0] at p1
    obtain ⟨q1, q2, q3, q4⟩ := p1
    have hne : ((x1 : Int) == 0) = false := by rw [beq_eq_false_iff_ne]; omega
    have c1 : ¬ (x2 : Int) < (a : Int) := by omega
    have c2 : ¬ (x3 : Int) > (t : Int) := by omega
    have c3 : ¬ (x2 : Int) > (x3 : Int) := by omega
    obtain ⟨n0, hn0⟩ : ∃ n0, n0 = k.len := ⟨_, rfl⟩
    have HK := Lib.hid hk
    have HNL := Lib.hid hn0
    have HDD := Lib.hid hd
    have HWW := Lib.hid hw
    have IH := Lib.hid ih
    have P3 := Lib.hid p3
    have P4 := Lib.hid p4
    rw [← hn0] at B0 R0 hl ⊢
    have r0 := R0.out.cell
    clear p2 p3 p4 hk hd hw ih hn0
    go_enter Tryz.func15, Tryz.ntmps15
    go_upto_region 3 with fail
    go_cut [62] from 27 to 62 (fun s62 wx => s62 = .bool false ∧ wx = w.alloc (.cells (ncc ⟨x1, x2, x3, x4, x5⟩ A n0 cap) 25))
    case first =>
      by_cases hz : x4.size = 0
      · have e := empty_of hz
        subst e
        go_wp2_with fail
        go_meet
        exact ⟨rfl, rfl⟩
      · obtain ⟨u1, u2⟩ := q4 hz
        have c4 := isEmpty_of hz
        have c5 : ¬ (x5 : Int) < (x2 : Int) := by omega
        have c6 : ¬ (x5 : Int) ≥ (x3 : Int) := by omega
        go_wp2_with fail
        go_meet
        exact ⟨rfl, rfl⟩
    case rest =>
    obtain ⟨rfl, rfl⟩ := hcut
    clear q4
    go_wp2_with fail
    go_loopg [7, 68] (n0 + 1) (fun kx s7 s68 wr => ∃ (i at_ : Nat), s68 = .int .i64 i ∧ s7 = .int .i64 at_ ∧ n0 - i ≤ kx ∧ i ≤ n0 ∧ at_ ≤ 1000000 ∧ Hid (x1 ≠ 2 → Apt (k.drop i) at_ x3) ∧ (x1 = 2 → i = 0) ∧ Hid (Below w.heap.size w wr) ∧ Hid (RowB wr w.heap.size 25 (ncc ⟨x1, x2, x3, x4, x5⟩ A n0 cap)))
    case atStart => exact ⟨0, x2, rfl, rfl, by omega, by omega, by omega, (by intro h2; rw [Fo.drop_zero]; exact P4.out h0 h2), (fun _ => rfl), B0.out, R0.out⟩
    case round =>
      obtain ⟨i, at_, rfl, rfl, hkx, hin, hat, HA, hi0, HB, RA⟩ := hrel
      clear B0 R0 r0
      have ra := RA.out.cell
      by_cases hi : i < n0
      · have hil : (i : Int) < (n0 : Int) := by omega
        obtain ⟨h', kk, e⟩ := Fo.drop_cons k i (by rw [← HNL.out]; exact hi)
        obtain ⟨g, o, A2, c2', rfl, hP, hg, hkk, a0, a1, a2, a3, a4, a5⟩ := KV.nth (HK.out.below HB.out) e
        obtain ⟨d1, d2, d3⟩ := Fo.drop_bounds k i _ _ _ e
        obtain ⟨y1, y2, y3, y4, y5⟩ := h'
        dsimp only at a0 a1 a2 a3 a4 a5
        have B1 := Lib.hid (bel1 wr (.cells (ncc ⟨y1, y2, y3, y4, y5⟩ A2 kk.len c2') 25))
        have RA1 := Lib.hid (RA.out.alloc (.cells (ncc ⟨y1, y2, y3, y4, y5⟩ A2 kk.len c2') 25))
        have HB1 := Lib.hid (HB.out.alloc HB.out.size (.cells (ncc ⟨y1, y2, y3, y4, y5⟩ A2 kk.len c2') 25))
        have hrl := RA.out.lt
        by_cases h2 : x1 = 2
        · subst h2
          have hfirst : y2 = x2 + 1 ∧ y3 = y2 + 1 ∧ y2 < x5 := by
            have hu := P3.out rfl
            rw [hi0 rfl, Fo.drop_zero] at e
            rw [e] at hu
            exact hu
          obtain ⟨f1, f2, f3⟩ := hfirst
          subst f1
          subst f2
          have e2 : IntKind.i64.wrap ((x2 : Int) + 1) = ((x2 + 1 : Nat) : Int) := by rw [IntKind.wrap_i64]; omega
          have e3 : IntKind.i64.wrap (((x2 + 1 : Nat) : Int) + 1) = ((x2 + 1 + 1 : Nat) : Int) := by rw [IntKind.wrap_i64]; omega
          have f4 : (x5 : Int) > ((x2 + 1 : Nat) : Int) := by omega
          obtain ⟨z2, hz2⟩ : ∃ z2, z2 = x2 + 1 := ⟨_, rfl⟩
          obtain ⟨z3, hz3⟩ : ∃ z3, z3 = x2 + 1 + 1 := ⟨_, rfl⟩
          rw [← hz3] at a2 e3 B1 RA1 HB1
          rw [← hz2] at a1 e2 e3 f4 B1 RA1 HB1
          have HBB := Lib.hid HB1.out
          clear e hkk d1 d2 d3 HA hz2 hz3 hi0 B1
          go_wp2_with fail
          go_ret
          exact ⟨rfl, HBB.out⟩
        · have hne2 : ((x1 : Int) == 2) = false := by rw [beq_eq_false_iff_ne]; omega
          have hap := HA.out h2
          rw [e] at hap
          obtain ⟨m1, m2, m3, m4, m5⟩ := hap
          have hap1 : Apt (.one ⟨y1, y2, y3, y4, y5⟩ kk) at_ x3 := ⟨m1, m2, m3, m4, trivial⟩
          have CC : Hid (∀ w', Below wr.heap.size wr w' → Calls Tryz.prog 15 #[nvv ⟨y1, y2, y3, y4, y5⟩ A2 kk.len c2', .int .i64 at_, .int .i64 x3] w' fun e w'' => e = .returned (.bool true) ∧ Below w'.heap.size w' w'') := fun w' hb =>
            IH.out kk.deep (by have := HDD.out; omega) ⟨y1, y2, y3, y4, y5⟩ kk A2 c2' at_ x3 P w' (Nat.le_refl _) (by have := HWW.out; omega) (by have := HWW.out; omega) hap1 hat (by omega) (hkk.below hb)
          obtain ⟨j, hj⟩ : ∃ j, j = i + 1 := ⟨_, rfl⟩
          have e1 : IntKind.i64.wrap ((i : Int) + 1) = (j : Int) := by rw [IntKind.wrap_i64]; omega
          unfold nodeOK at m1
          dsimp only at m1 m5
          rw [← hj] at m5
          have M1 := Lib.hid m1
          have M5 := Lib.hid m5
          have HJ := Lib.hid hj
          clear hap1 m1 m2 m3 m4 m5 hkk d1 d2 d3 e hj HA
          go_wp2_with fail
          refine (CC.out _ B1.out).mono ?_
          rintro e w2 ⟨rfl, hb2⟩
          have HB2 := Lib.hid (HB1.out.trans (hb2.mono (by have := HB.out.size; simp; omega)))
          have RA2 := Lib.hid (RA1.out.below hb2 RA1.out.lt)
          have RY := (RowB.new wr 25 (ncc ⟨y1, y2, y3, y4, y5⟩ A2 kk.len c2')).below hb2 (by simp)
          have ry := RY.cell
          clear hb2 CC B1 RA1 HB1 RY ra
          by_cases hy : y1 = 0
          · subst hy
            have hj := HJ.out
            go_wp2_with fail
            go_roundg (n0 - j)
            case measure => omega
            case rel => exact ⟨j, at_, (by first | rfl | rw [show (j : Int) = (i : Int) + 1 by omega]), rfl, by omega, by omega, by omega, (fun _ => by have := M5.out; simpa using this), (fun h => absurd h h2), HB2.out, RA2.out⟩
          · have hyn : ((y1 : Int) != 0) = true := by rw [bne_iff_ne]; omega
            have hyn2 : ((y1 : Int) == 0) = false := by rw [beq_eq_false_iff_ne]; omega
            have hj := HJ.out
            have hm := M1.out
            rw [if_neg hy] at hm
            go_wp2_with fail
            go_roundg (n0 - j)
            case measure => omega
            case rel => exact ⟨j, y3, (by first | rfl | rw [show (j : Int) = (i : Int) + 1 by omega]), rfl, by omega, by omega, by omega, (fun _ => by have := M5.out; rw [if_neg hy] at this; exact this), (fun h => absurd h h2), HB2.out, RA2.out⟩
      · have hd1 : decide ((i : Int) < (n0 : Int)) = false := decide_eq_false (by omega)
        have hd2 : decide (i < n0) = false := decide_eq_false (by omega)
        clear hi
        go_wp2_with fail
        go_ret
        exact ⟨rfl, HB.out⟩
end Pg
end Go.Proofs.YthlkjfkgdijfdaaGreatDoor
