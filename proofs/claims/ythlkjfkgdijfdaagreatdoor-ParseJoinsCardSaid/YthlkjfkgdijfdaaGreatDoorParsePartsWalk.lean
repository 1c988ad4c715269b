/- Contracts: the law ParseParts: whatever the text, it is true. -/
import Derived.Test.YthlkjfkgdijfdaaGreatDoorXL
import Derived.Test.YthlkjfkgdijfdaaGreatDoorHK
import Derived.Test.YthlkjfkgdijfdaaGreatDoorHM
namespace Go.Proofs.YthlkjfkgdijfdaaGreatDoor
open Go.RowKit
namespace Pg
open Ps
theorem of_bad {s : ByteArray} {e a : Int} (h : ofM s = .bad e a) : e ≠ 0 := by
  unfold ofM at h
  cases hx : lexR s with
  | bad e' a' =>
    rw [hx] at h
    injection h with h1 h2
    rw [← h1]
    exact lexR_bad hx
  | good l =>
    rw [hx] at h
    dsimp only at h
    cases hp : parseM l with
    | ok h' k' => rw [hp] at h; cases h
    | bad e' a' =>
      rw [hp] at h
      injection h with h1 h2
      have hle : l.length ≤ 4000 := lexR_len hx
      have := parse_bad (lexR_wf hx hle) hp
      omega
theorem of_ok {s : ByteArray} {l : List Tok} {h : Hd} {k : Fo} (hh : ofM s = .ok l h k) : lexR s = .good l ∧ parseM l = .ok h k := by
  unfold ofM at hh
  cases hx : lexR s with
  | bad e' a' => rw [hx] at hh; cases hh
  | good l' =>
    rw [hx] at hh
    dsimp only at hh
    cases hp : parseM l' with
    | ok h' k' => rw [hp] at hh; injection hh with h1 h2 h3; subst h1 h2 h3; exact ⟨rfl, hp⟩
    | bad e' a' => rw [hp] at hh; cases hh
theorem parse_ok {l : List Tok} {h : Hd} {k : Fo} (W : Wf2 l) (hh : parseM l = .ok h k) :
    ∃ q : Fo × Sd, itemsM l fuel (-1) 0 = some q ∧ q.2.2 < 0 ∧ h = ⟨1, 0, q.2.1, e0, 0⟩ ∧ k = q.1 ∧ q.2.1 + 1 = l.length ∧ 1 + k.deep ≤ 60 := by
  obtain ⟨q, hq, hlt⟩ := items_some W.toWf
  unfold parseM at hh
  rw [hq] at hh
  dsimp only at hh
  unfold wholeM at hh
  split at hh
  · cases hh
  · rename_i hg
    dsimp only at hg
    split at hh
    · cases hh
    · rename_i hn
      simp only [Fo.one] at hh
      split at hh
      · cases hh
      · rename_i hd
        injection hh with h1 h2
        have := hlt (by omega)
        dsimp only at hn
        exact ⟨q, hq, by omega, h1.symm, h2.symm, by omega, by rw [← h2]; omega⟩

set_option maxHeartbeats 4000000 in
set_option maxRecDepth 100000 in
theorem parts_walk (s : ByteArray) (w : World) (hT : Tabs w) (hE : Errs w) (hN : Names w) (hs : (s.size : Int) ≤ 9223372036854775807) : Calls Tryz.prog 5 #[.string s] w fun e w' => e = .returned (.bool true) ∧ Below w.heap.size w w' := by
  have CO := Lib.hid (of_any s hs w hT hE)
  have CA : Hid (∀ w', Below w.heap.size w w' → Calls Tryz.prog 9 #[] w' fun e w'' => e = .returned (.bool true) ∧ Below w'.heap.size w' w'') := fun w' hb => awake_any w' (Tabs.step hT hb) (hE.below hb) (hN.step hb)
  clear hT hE hN
  go_enter Tryz.func5, Tryz.ntmps5
  go_wp2_with fail
  refine CO.out.mono ?_
  rintro e w1 ⟨hb, ho⟩
  cases hx : ofM s with
  | bad er a =>
    rw [hx] at ho
    subst ho
    have hne := of_bad hx
    have h1 : (er == 0) = false := by rw [beq_eq_false_iff_ne]; exact hne
    have h2 : (er != 0) = true := by rw [bne_iff_ne]; exact hne
    have B1 := Lib.hid (hb.alloc hb.size (.cells zcc 25))
    have R1 := Lib.hid (RowB.new w1 25 zcc)
    have C2 := Lib.hid (CA.out _ B1.out)
    clear hb hx hne CA CO
    go_wp2_with fail
    refine C2.out.mono ?_
    rintro e w2 ⟨rfl, hb⟩
    have B2 := Lib.hid (B1.out.trans (hb.mono B1.out.size))
    have r2 := (R1.out.below hb (by simp)).cell
    clear hb C2
    go_wp2_with fail
    go_ret
    exact ⟨rfl, B2.out⟩
  | ok l h k =>
    rw [hx] at ho
    obtain ⟨A, c, A1, c1, rfl, hTA, hlc, hk⟩ := ho
    obtain ⟨hlx, hpm⟩ := of_ok hx
    have W := lexR_wf hlx (lexR_len hlx)
    obtain ⟨q, hq, hqg, hh, hkq, hql, hd60⟩ := parse_ok W hpm
    obtain ⟨hgood, hsz⟩ := lexR_good hlx
    have hjl : jl l = s.data.toList := by rw [hgood.1]; exact tl_zero s
    have hjs : (⟨(jl l).toArray⟩ : ByteArray) = s := by rw [hjl]
    have hjlen : (jl l).length ≤ 100000 := by rw [hjl]; simp; omega
    obtain ⟨qk, til, qb⟩ := q
    dsimp only at hh hkq hql hqg
    subst hh
    subst hkq
    obtain ⟨ap1, _, _⟩ := items_apt _ _ _ _ hq hqg
    have hap : Apt (.one ⟨1, 0, til, e0, 0⟩ k) 0 l.length := Apt.one (by dsimp only; omega) (by dsimp only; omega) ap1 (Nat.le_refl _) (Nat.le_refl _) (Nat.le_refl _) (by dsimp only; omega) (Nat.zero_le _) (fun h => absurd h e0_size)
    obtain ⟨hkl, hkw⟩ := items_wide' hq
    dsimp only at hkl hkw
    have hle := W.le
    have hpos := W.pos
    have B1 := Lib.hid (hb.alloc hb.size (.cells (ncc ⟨1, 0, til, e0, 0⟩ A1 k.len c1) 25))
    have bz := bel1 w1 (.cells (ncc ⟨1, 0, til, e0, 0⟩ A1 k.len c1) 25)
    have R1 := Lib.hid (RowB.new w1 25 (ncc ⟨1, 0, til, e0, 0⟩ A1 k.len c1))
    have T1 := Lib.hid (hTA.below bz)
    have K1 := Lib.hid (hk.below bz)
    have CP := parse_any l A c _ T1.out W hlc
    rw [hpm] at CP
    have CP := Lib.hid CP
    have hsz1 := hb.size
    have e1 : IntKind.i64.wrap ((l.length : Int) - 1) = (til : Int) := by rw [IntKind.wrap_i64]; omega
    have HAP := Lib.hid hap
    have HJS := Lib.hid hjs
    obtain ⟨dk, hdk⟩ : ∃ dk, dk = 1 + k.deep := ⟨_, rfl⟩
    have hd60' : (dk : Int) ≤ 60 := by omega
    have HDK := Lib.hid hdk
    clear hb hx CO hTA hk hlx hpm hq hgood hjl hjs ap1 hap bz hdk W
    go_wp2_with fail
    refine CP.out.mono ?_
    rintro e w2 ⟨hb, A2, c2, rfl, hk2⟩
    have B2 := Lib.hid (B1.out.trans (hb.mono B1.out.size))
    have R2 := Lib.hid (R1.out.below hb (by simp))
    have T2 := Lib.hid (T1.out.below hb)
    have K2 := Lib.hid (K1.out.below hb)
    have hsz2 : w1.heap.size < w2.heap.size := by have := hb.size; simp at this; omega
    have bz := bel1 w2 (.cells (ncc ⟨1, 0, til, e0, 0⟩ A2 k.len c2) 25)
    have B3 := Lib.hid (B2.out.trans (bz.mono B2.out.size))
    have R3 := Lib.hid (R2.out.below bz hsz2)
    have T3 := Lib.hid (T2.out.below bz)
    have K3 := Lib.hid (K2.out.below bz)
    have M3 := Lib.hid (hk2.below bz)
    have Q3 := Lib.hid (RowB.new w2 25 (ncc ⟨1, 0, til, e0, 0⟩ A2 k.len c2))
    have C3 := Lib.hid (CA.out _ B3.out)
    clear hb CP hk2 B1 R1 T1 K1 B2 R2 T2 K2 bz CA
    go_wp2_with fail
    refine C3.out.mono ?_
    rintro e w3 ⟨rfl, hb⟩
    have B4 := Lib.hid (B3.out.trans (hb.mono B3.out.size))
    have R4 := Lib.hid (R3.out.below hb R3.out.lt)
    have T4 := Lib.hid (T3.out.below hb)
    have K4 := Lib.hid (K3.out.below hb)
    have M4 := Lib.hid (M3.out.below hb)
    have Q4 := Lib.hid (Q3.out.below hb Q3.out.lt)
    have r4 := R4.out.cell
    have C4 := Lib.hid (apart_any k.deep ⟨1, 0, til, e0, 0⟩ k A1 c1 0 l.length _ w3 (Nat.le_refl _) (by omega) (by omega) HAP.out (by omega) (by omega) K4.out)
    clear hb C3 B3 R3 T3 K3 M3 Q3 HAP
    go_wp2_with fail
    refine C4.out.mono ?_
    rintro e w4 ⟨rfl, hb⟩
    have B5 := Lib.hid (B4.out.trans (hb.mono B4.out.size))
    have R5 := Lib.hid (R4.out.below hb R4.out.lt)
    have T5 := Lib.hid (T4.out.below hb)
    have K5 := Lib.hid (K4.out.below hb)
    have M5 := Lib.hid (M4.out.below hb)
    have Q5 := Lib.hid (Q4.out.below hb Q4.out.lt)
    have r5 := R5.out.cell
    have q5 := Q5.out.cell
    have C5 := Lib.hid (same_true k.deep ⟨1, 0, til, e0, 0⟩ ⟨1, 0, til, e0, 0⟩ k k A1 A2 c1 c2 _ _ w4 (Nat.le_refl _) (by omega) (by omega) ⟨rfl, rfl, fun _ => ⟨rfl, rfl, rfl⟩⟩ (Eqv.refl _ _) K5.out M5.out)
    clear hb C4 B4 R4 T4 K4 M4 Q4 r4
    go_wp2_with fail
    refine C5.out.mono ?_
    rintro e w5 ⟨rfl, hb⟩
    have B6 := Lib.hid (B5.out.trans (hb.mono B5.out.size))
    have R6 := Lib.hid (R5.out.below hb R5.out.lt)
    have T6 := Lib.hid (T5.out.below hb)
    have K6 := Lib.hid (K5.out.below hb)
    have C6 := join_any l A c w5 T6.out hle (fun _ => hlc) hjlen
    rw [HJS.out] at C6
    have C6 := Lib.hid C6
    clear hb C5 B5 R5 T5 K5 M5 Q5 r5 q5
    go_wp2_with fail
    refine C6.out.mono ?_
    rintro e w6 ⟨rfl, hb⟩
    have B7 := Lib.hid (B6.out.trans (hb.mono B6.out.size))
    have R7 := Lib.hid (R6.out.below hb R6.out.lt)
    have K7 := Lib.hid (K6.out.below hb)
    have r7 := R7.out.cell
    have C7 := depth_any k.deep ⟨1, 0, til, e0, 0⟩ k A1 c1 _ w6 (Nat.le_refl _) (by omega) (by omega) (by omega) K7.out
    rw [← HDK.out] at C7
    have C7 := Lib.hid C7
    clear hb C6 B6 R6 T6 K6
    go_wp2_with fail
    refine C7.out.mono ?_
    rintro e w7 ⟨rfl, hb⟩
    have B8 := Lib.hid (B7.out.trans (hb.mono B7.out.size))
    clear hb C7
    go_wp2_with fail
    go_ret
    exact ⟨rfl, B8.out⟩
end Pg
end Go.Proofs.YthlkjfkgdijfdaaGreatDoor
