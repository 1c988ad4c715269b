/- Contracts: the law ParseTypes: whatever the text, it is true. -/
import Derived.Test.YthlkjfkgdijfdaaGreatDoorYC
import Derived.Test.YthlkjfkgdijfdaaGreatDoorLG
import Derived.Test.YthlkjfkgdijfdaaGreatDoorXL
import Derived.Test.YthlkjfkgdijfdaaGreatDoorHK
namespace Go.Proofs.YthlkjfkgdijfdaaGreatDoor
open Go.RowKit
namespace Pg
open Ps
theorem type_ok {s : ByteArray} {h : Hd} {k : Fo} (hh : typeM s = .ok h k) : k.len ≤ 1000000 ∧ k.wide ≤ 1000000 := by
  unfold typeM at hh
  cases hx : lexR s with
  | bad e a => rw [hx] at hh; cases hh
  | good l =>
    rw [hx] at hh
    dsimp only at hh
    cases hp : ptypeM l with
    | bad e a => rw [hp] at hh; cases hh
    | ok h' k' =>
      rw [hp] at hh
      injection hh with h1 h2
      subst h1 h2
      have W := lexR_wf hx (lexR_len hx)
      obtain ⟨q, hq, _⟩ := ty_some W.toWf
      have hw := ty_wide' hq
      unfold ptypeM at hp
      rw [hq] at hp
      dsimp only at hp
      unfold wholeM at hp
      split at hp
      · cases hp
      · split at hp
        · cases hp
        · split at hp
          · cases hp
          · rename_i hq1
            split at hp
            · cases hp
            · injection hp with h1 h2
              subst h1 h2
              rw [hq1, Fo.wide] at hw
              omega

set_option maxHeartbeats 4000000 in
set_option maxRecDepth 100000 in
theorem types_walk (s : ByteArray) (w : World) (hT : Tabs w) (hE : Errs w) (hN : Names w) (hs : (s.size : Int) ≤ 9223372036854775807) : Calls Tryz.prog 4 #[.string s] w fun e w' => e = .returned (.bool true) ∧ Below w.heap.size w w' := by
  have CT := Lib.hid (type_any s hs w hT hE)
  have CR : Hid (∀ w', Below w.heap.size w w' → Calls Tryz.prog 13 #[.string s] w' (TypQ w' (typeM s))) := fun w' _ => rtype_any s w' (fun w'' _ => rlext_any s hs w'')
  have CA : Hid (∀ w', Below w.heap.size w w' → Calls Tryz.prog 9 #[] w' fun e w'' => e = .returned (.bool true) ∧ Below w'.heap.size w' w'') := fun w' hb => awake_any w' (Tabs.step hT hb) (hE.below hb) (hN.step hb)
  clear hT hE hN
  go_enter Tryz.func4, Tryz.ntmps4
  go_wp2_with fail
  refine CT.out.mono ?_
  rintro e w1 ⟨hb, ho⟩
  clear CT
  cases hx : typeM s with
  | bad er =>
    rw [hx] at ho
    obtain rfl := ho
    have he : (er == er) = true := beq_self_eq_true er
    have B1 := Lib.hid (hb.alloc hb.size (.cells zcc 25))
    have bz := bel1 w1 (.cells zcc 25)
    have R1 := Lib.hid (RowB.new w1 25 zcc)
    clear hb bz
    go_wp2_with fail
    refine (CR.out _ B1.out).mono ?_
    rw [hx]
    rintro e w2 ⟨hb, ho⟩
    obtain rfl := ho
    have hb0 := B1.out.trans (hb.mono B1.out.size)
    have hs2 : w1.heap.size < w2.heap.size := by have := hb.size; simp at this; omega
    have bz := bel1 w2 (.cells zcc 25)
    have B2 := Lib.hid (hb0.alloc hb0.size (.cells zcc 25))
    have R2 := Lib.hid ((R1.out.below hb (by simp)).below bz hs2)
    have Q2 := Lib.hid (RowB.new w2 25 zcc)
    have C2 := Lib.hid (CA.out _ B2.out)
    clear hb hb0 bz B1 R1 CA CR hx
    go_wp2_with fail
    refine C2.out.mono ?_
    rintro e w3 ⟨rfl, hb⟩
    have B3 := Lib.hid (B2.out.trans (hb.mono B2.out.size))
    have R3 := Lib.hid (R2.out.below hb R2.out.lt)
    have Q3 := Lib.hid (Q2.out.below hb Q2.out.lt)
    have r3 := R3.out.cell
    have q3 := Q3.out.cell
    have C3 := Lib.hid (same_true 0 ⟨0, 0, 0, e0, 0⟩ ⟨0, 0, 0, e0, 0⟩ .nil .nil none none 0 0 (fun _ => True) (fun _ => True) w3 (Nat.le_refl _) (by simp [Fo.len]) (by simp [Fo.wide]) ⟨rfl, rfl, fun _ => ⟨rfl, rfl, rfl⟩⟩ (Eqv.refl _ _) (KV.nil _ _ _ _) (KV.nil _ _ _ _))
    clear hb C2 B2 R2 Q2
    go_wp2_with fail
    refine C3.out.mono ?_
    rintro e w4 ⟨rfl, hb⟩
    have B4 := Lib.hid (B3.out.trans (hb.mono B3.out.size))
    clear hb C3
    go_wp2_with fail
    go_ret
    exact ⟨rfl, B4.out⟩
  | ok h k =>
    rw [hx] at ho
    obtain ⟨A1, c1, rfl, hk1⟩ := ho
    obtain ⟨hl, hw⟩ := type_ok hx
    obtain ⟨x1, x2, x3, x4, x5⟩ := h
    have B1 := Lib.hid (hb.alloc hb.size (.cells (ncc ⟨x1, x2, x3, x4, x5⟩ A1 k.len c1) 25))
    have bz := bel1 w1 (.cells (ncc ⟨x1, x2, x3, x4, x5⟩ A1 k.len c1) 25)
    have R1 := Lib.hid (RowB.new w1 25 (ncc ⟨x1, x2, x3, x4, x5⟩ A1 k.len c1))
    have K1 := Lib.hid (hk1.below bz)
    clear hk1
    clear hb bz
    go_wp2_with fail
    refine (CR.out _ B1.out).mono ?_
    rw [hx]
    rintro e w2 ⟨hb, ho⟩
    obtain ⟨A2, c2, rfl, hk2⟩ := ho
    have hb0 := B1.out.trans (hb.mono B1.out.size)
    have hs2 : w1.heap.size < w2.heap.size := by have := hb.size; simp at this; omega
    have bz := bel1 w2 (.cells (ncc ⟨x1, x2, x3, x4, x5⟩ A2 k.len c2) 25)
    have B2 := Lib.hid (hb0.alloc hb0.size (.cells (ncc ⟨x1, x2, x3, x4, x5⟩ A2 k.len c2) 25))
    have R2 := Lib.hid ((R1.out.below hb (by simp)).below bz hs2)
    have Q2 := Lib.hid (RowB.new w2 25 (ncc ⟨x1, x2, x3, x4, x5⟩ A2 k.len c2))
    have K2 := Lib.hid ((K1.out.below hb).below bz)
    have M2 := Lib.hid (hk2.below bz)
    clear hk2 K1
    have C2 := Lib.hid (CA.out _ B2.out)
    clear hb hb0 bz B1 R1 CA CR hx
    go_wp2_with fail
    refine C2.out.mono ?_
    rintro e w3 ⟨rfl, hb⟩
    have B3 := Lib.hid (B2.out.trans (hb.mono B2.out.size))
    have R3 := Lib.hid (R2.out.below hb R2.out.lt)
    have Q3 := Lib.hid (Q2.out.below hb Q2.out.lt)
    have r3 := R3.out.cell
    have q3 := Q3.out.cell
    have K3 := Lib.hid (K2.out.below hb)
    have M3 := Lib.hid (M2.out.below hb)
    clear K2 M2
    have C3 := Lib.hid (same_true k.deep ⟨x1, x2, x3, x4, x5⟩ ⟨x1, x2, x3, x4, x5⟩ k k A1 A2 c1 c2 _ _ w3 (Nat.le_refl _) (by omega) (by omega) ⟨rfl, rfl, fun _ => ⟨rfl, rfl, rfl⟩⟩ (Eqv.refl _ _) K3.out M3.out)
    clear hb C2 B2 R2 Q2
    go_wp2_with fail
    refine C3.out.mono ?_
    rintro e w4 ⟨rfl, hb⟩
    have B4 := Lib.hid (B3.out.trans (hb.mono B3.out.size))
    clear hb C3
    go_wp2_with fail
    go_ret
    exact ⟨rfl, B4.out⟩
end Pg
end Go.Proofs.YthlkjfkgdijfdaaGreatDoor
