/- Contracts: the law ParseReads: whatever the text, it is true. -/
import Derived.Test.YthlkjfkgdijfdaaGreatDoorNYO
import Derived.Test.YthlkjfkgdijfdaaGreatDoorTS
import Derived.Test.YthlkjfkgdijfdaaGreatDoorXL
import Derived.Test.YthlkjfkgdijfdaaGreatDoorHK
namespace Go.Proofs.YthlkjfkgdijfdaaGreatDoor
open Go.RowKit
namespace Pg
open Ps
theorem of_ok {s : ByteArray} {l : List Tok} {h : Hd} {k : Fo} (hh : ofM s = .ok l h k) : l.length ≤ 4000 ∧ k.len ≤ 1000000 ∧ k.wide ≤ 1000000 := by
  unfold ofM at hh
  cases hx : lexR s with
  | bad e a => rw [hx] at hh; cases hh
  | good l' =>
    rw [hx] at hh
    dsimp only at hh
    cases hp : parseM l' with
    | bad e a => rw [hp] at hh; cases hh
    | ok h' k' =>
      rw [hp] at hh
      injection hh with h1 h2 h3
      subst h1 h2 h3
      have W := lexR_wf hx (lexR_len hx)
      obtain ⟨q, hq, _⟩ := items_some W.toWf
      have hw := items_wide' hq
      unfold parseM at hp
      rw [hq] at hp
      dsimp only at hp
      unfold wholeM at hp
      split at hp
      · cases hp
      · split at hp
        · cases hp
        · simp only [Fo.one] at hp
          split at hp
          · cases hp
          · injection hp with h1 h2
            subst h1 h2
            exact ⟨lexR_len hx, hw.1, hw.2⟩

set_option maxHeartbeats 4000000 in
set_option maxRecDepth 100000 in
theorem reads_walk (s : ByteArray) (w : World) (hT : Tabs w) (hE : Errs w) (hN : Names w) (hs : (s.size : Int) ≤ 9223372036854775807) : Calls Tryz.prog 3 #[.string s] w fun e w' => e = .returned (.bool true) ∧ Below w.heap.size w w' := by
  have CT := Lib.hid (of_any s hs w hT hE)
  have CR : Hid (∀ w', Below w.heap.size w w' → Calls Tryz.prog 8 #[.string s] w' (OfQ w' (ofM s))) := fun w' _ => rof_any s hs w'
  have CA : Hid (∀ w', Below w.heap.size w w' → Calls Tryz.prog 9 #[] w' fun e w'' => e = .returned (.bool true) ∧ Below w'.heap.size w' w'') := fun w' hb => awake_any w' (Tabs.step hT hb) (hE.below hb) (hN.step hb)
  clear hT hE hN
  go_enter Tryz.func3, Tryz.ntmps3
  go_wp2_with fail
  refine CT.out.mono ?_
  rintro e w1 ⟨hb, ho⟩
  clear CT
  cases hx : ofM s with
  | bad er ea =>
    rw [hx] at ho
    obtain rfl := ho
    have he : (er == er) = true := beq_self_eq_true er
    have he2 : (ea == ea) = true := beq_self_eq_true ea
    have B1 := Lib.hid (hb.alloc hb.size (.cells zcc 25))
    have bz := bel1 w1 (.cells zcc 25)
    have R1 := Lib.hid (RowB.new w1 25 zcc)
    clear hb bz
    go_wp2_with fail
    refine (CR.out _ B1.out).mono ?_
    rw [hx]
    rintro e w2 ⟨hb, ho⟩
    obtain rfl := ho
    have hb0 := B1.out.trans (hb.mono B1.out.size)
    have hs2 : w1.heap.size < w2.heap.size := by have := hb.size; simp at this; omega
    have bz := bel1 w2 (.cells zcc 25)
    have B2 := Lib.hid (hb0.alloc hb0.size (.cells zcc 25))
    have R2 := Lib.hid ((R1.out.below hb (by simp)).below bz hs2)
    have Q2 := Lib.hid (RowB.new w2 25 zcc)
    have C2 := Lib.hid (CA.out _ B2.out)
    clear hb hb0 bz B1 R1 CA CR hx
    go_wp2_with fail
    refine C2.out.mono ?_
    rintro e w3 ⟨rfl, hb⟩
    have B3 := Lib.hid (B2.out.trans (hb.mono B2.out.size))
    have R3 := Lib.hid (R2.out.below hb R2.out.lt)
    have Q3 := Lib.hid (Q2.out.below hb Q2.out.lt)
    have CS := Lib.hid (tsame_any [] none none 0 0 w3 (fun h => by cases h) (fun h => by cases h) (by simp) (by simp) (by simp))
    clear hb C2 B2 R2 Q2
    go_wp2_with fail
    refine CS.out.mono ?_
    rintro e w5 ⟨rfl, hb⟩
    have B5 := Lib.hid (B3.out.trans (hb.mono B3.out.size))
    have R5 := Lib.hid (R3.out.below hb R3.out.lt)
    have Q5 := Lib.hid (Q3.out.below hb Q3.out.lt)
    have r3 := R5.out.cell
    have q3 := Q5.out.cell
    have C3 := Lib.hid (same_true 0 ⟨0, 0, 0, e0, 0⟩ ⟨0, 0, 0, e0, 0⟩ .nil .nil none none 0 0 (fun _ => True) (fun _ => True) w5 (Nat.le_refl _) (by simp [Fo.len]) (by simp [Fo.wide]) ⟨rfl, rfl, fun _ => ⟨rfl, rfl, rfl⟩⟩ (Eqv.refl _ _) (KV.nil _ _ _ _) (KV.nil _ _ _ _))
    clear hb CS B3 R3 Q3
    go_wp2_with fail
    refine C3.out.mono ?_
    rintro e w4 ⟨rfl, hb⟩
    have B4 := Lib.hid (B5.out.trans (hb.mono B5.out.size))
    clear hb C3
    go_wp2_with fail
    go_ret
    exact ⟨rfl, B4.out⟩
  | ok l h k =>
    rw [hx] at ho
    obtain ⟨T1, d1, A1, c1, rfl, hT1, hd1, hk1⟩ := ho
    obtain ⟨hll, hl, hw⟩ := of_ok hx
    obtain ⟨x1, x2, x3, x4, x5⟩ := h
    have B1 := Lib.hid (hb.alloc hb.size (.cells (ncc ⟨x1, x2, x3, x4, x5⟩ A1 k.len c1) 25))
    have bz := bel1 w1 (.cells (ncc ⟨x1, x2, x3, x4, x5⟩ A1 k.len c1) 25)
    have R1 := Lib.hid (RowB.new w1 25 (ncc ⟨x1, x2, x3, x4, x5⟩ A1 k.len c1))
    have K1 := Lib.hid (hk1.below bz)
    have U1 := Lib.hid (hT1.below bz)
    clear hk1 hT1
    clear hb bz
    go_wp2_with fail
    refine (CR.out _ B1.out).mono ?_
    rw [hx]
    rintro e w2 ⟨hb, ho⟩
    obtain ⟨T2, d2, A2, c2, rfl, hT2, hd2, hk2⟩ := ho
    have hb0 := B1.out.trans (hb.mono B1.out.size)
    have hs2 : w1.heap.size < w2.heap.size := by have := hb.size; simp at this; omega
    have bz := bel1 w2 (.cells (ncc ⟨x1, x2, x3, x4, x5⟩ A2 k.len c2) 25)
    have B2 := Lib.hid (hb0.alloc hb0.size (.cells (ncc ⟨x1, x2, x3, x4, x5⟩ A2 k.len c2) 25))
    have R2 := Lib.hid ((R1.out.below hb (by simp)).below bz hs2)
    have Q2 := Lib.hid (RowB.new w2 25 (ncc ⟨x1, x2, x3, x4, x5⟩ A2 k.len c2))
    have K2 := Lib.hid ((K1.out.below hb).below bz)
    have M2 := Lib.hid (hk2.below bz)
    have U2 := Lib.hid ((U1.out.below hb).below bz)
    have V2 := Lib.hid (hT2.below bz)
    clear hk2 hT2 K1 U1
    have C2 := Lib.hid (CA.out _ B2.out)
    clear hb hb0 bz B1 R1 CA CR hx
    go_wp2_with fail
    refine C2.out.mono ?_
    rintro e w3 ⟨rfl, hb⟩
    have B3 := Lib.hid (B2.out.trans (hb.mono B2.out.size))
    have R3 := Lib.hid (R2.out.below hb R2.out.lt)
    have Q3 := Lib.hid (Q2.out.below hb Q2.out.lt)
    have K3 := Lib.hid (K2.out.below hb)
    have M3 := Lib.hid (M2.out.below hb)
    have U3 := Lib.hid (U2.out.below hb)
    have V3 := Lib.hid (V2.out.below hb)
    clear K2 M2 U2 V2
    have CS := Lib.hid (tsame_any l T1 T2 d1 d2 w3 U3.out V3.out hll hd1 hd2)
    clear hb C2 B2 R2 Q2
    go_wp2_with fail
    refine CS.out.mono ?_
    rintro e w5 ⟨rfl, hb⟩
    have B5 := Lib.hid (B3.out.trans (hb.mono B3.out.size))
    have R5 := Lib.hid (R3.out.below hb R3.out.lt)
    have Q5 := Lib.hid (Q3.out.below hb Q3.out.lt)
    have r3 := R5.out.cell
    have q3 := Q5.out.cell
    have K5 := Lib.hid (K3.out.below hb)
    have M5 := Lib.hid (M3.out.below hb)
    clear K3 M3 U3 V3
    have C3 := Lib.hid (same_true k.deep ⟨x1, x2, x3, x4, x5⟩ ⟨x1, x2, x3, x4, x5⟩ k k A1 A2 c1 c2 _ _ w5 (Nat.le_refl _) (by omega) (by omega) ⟨rfl, rfl, fun _ => ⟨rfl, rfl, rfl⟩⟩ (Eqv.refl _ _) K5.out M5.out)
    clear hb CS B3 R3 Q3
    go_wp2_with fail
    refine C3.out.mono ?_
    rintro e w4 ⟨rfl, hb⟩
    have B4 := Lib.hid (B5.out.trans (hb.mono B5.out.size))
    clear hb C3
    go_wp2_with fail
    go_ret
    exact ⟨rfl, B4.out⟩
end Pg
end Go.Proofs.YthlkjfkgdijfdaaGreatDoor
