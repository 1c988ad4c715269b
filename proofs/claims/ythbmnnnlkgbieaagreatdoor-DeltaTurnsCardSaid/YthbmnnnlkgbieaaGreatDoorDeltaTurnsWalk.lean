/- The law DeltaTurns answers true. -/
import Derived.Test.YthbmnnnlkgbieaaGreatDoorDeltaMakesWalk
import Derived.Test.YthbmnnnlkgbieaaGreatDoorMB3
namespace Go.Proofs.YthbmnnnlkgbieaaGreatDoor
open Go.RowKit

theorem small_units {la lb : List Tok} (h : la.length + lb.length ≤ 200) : (unitsL la).length * (unitsL lb).length ≤ 1048576 := by
  have h1 := unitsL_len la
  have h2 := unitsL_len lb
  have : (unitsL la).length * (unitsL lb).length ≤ 400 * 400 := Nat.mul_le_mul (by omega) (by omega)
  omega
/-- What Kept answers of few tokens. -/
theorem keptl_any (s t : ByteArray) (la lb : List Tok) (A B : Option Addr) (ca cb : Nat) (w : World) (hA : TokS w s la A ca) (hB : TokS w t lb B cb) (h : la.length + lb.length ≤ 200) :
    Calls Tryz.prog 16 #[.slice A la.length ca, .slice B lb.length cb] w fun e w' => e = .returned (.int .i64 (Dl.lcs (bs (unitsL la)) (bs (unitsL lb)) : Nat)) ∧ Below w.heap.size w w' := by
  have za : szs (unitsL la) = s.size := hA.1.is.size.symm
  have zb : szs (unitsL lb) = t.size := hB.1.is.size.symm
  have h3 := hA.2.1
  have h4 := hB.2.1
  refine (kept_any la lb A B ca cb w hA.2.2.1 hB.2.2.1 hA.2.2.2.1 hB.2.2.2.1 hA.2.2.2.2 hB.2.2.2.2 (fun x hx => ?_) (fun x hx => ?_)).mono ?_
  · have := size_mem _ _ hx; unfold maxLen; omega
  · have := size_mem _ _ hx; unfold maxLen; omega
  · rintro e w' ⟨G, hG, rfl, hb⟩
    have hg := (hG.good (small_units h)).1
    have hk := hg.kept
    refine ⟨ri ?_, hb⟩
    unfold Dl.L at hk
    rw [bs_len, List.drop_zero, List.drop_zero] at hk
    omega
theorem TokS.bete {w : World} {s t : ByteArray} {la lb : List Tok} {A B : Option Addr} {ca cb : Nat} (hA : TokS w s la A ca) (hB : TokS w t lb B cb) :
    Calls Tryz.prog 9 #[.slice A la.length ca, .slice B lb.length cb] w (BetE (unitsL la) (unitsL lb) w) :=
  bete_any s t la lb A B ca cb w hA.1 hB.1 hA.2.1 hB.2.1 hA.2.2.1 hB.2.2.1 hA.2.2.2.1 hB.2.2.2.1 hA.2.2.2.2 hB.2.2.2.2
/-- The document's Apply of what Between answers. -/
theorem TokS.apply {w w1 : World} {s t : ByteArray} {la lb : List Tok} {A B : Option Addr} {ca cb : Nat} (hA : TokS w s la A ca) (hB : TokS w t lb B cb) {e : Ending} (h : BetE (unitsL la) (unitsL lb) w e w1) :
    ∃ X n c, e = .returned (.slice X n c) ∧ Below w.heap.size w w1 ∧ Calls Tryz.prog 10 #[.string s, .slice X n c] w1 fun e w' => e = .returned (.tuple #[.string t, .int .i64 0]) ∧ Below w1.heap.size w1 w' := by
  obtain ⟨G, X, cx, hG, rfl, hes, hel, hb⟩ := h
  obtain ⟨hsn, hap⟩ := RLex.snd hA.1 hB.1 hG
  have h3 := hA.2.1
  have h4 := hB.2.1
  have hll : (apd s (edsOf (unitsL la) (unitsL lb) (Dl.few G))).length ≤ 140737488355328 := by
    rw [hap]; have : t.data.toList.length = t.size := rfl; omega
  have c2 := rapply_ok s X cx _ w1 hes (by omega) hsn hll (by omega)
  rw [hap, back_ba] at c2
  exact ⟨X, _, cx, rfl, hb, c2⟩

set_option maxHeartbeats 4000000 in
set_option maxRecDepth 100000 in
theorem deltaTurns.walk (s t : ByteArray) (w : World) (hT : Tabs w) (hE : Errs w) (hs : s.size ≤ maxLen) (ht : t.size ≤ maxLen) :
    Calls Tryz.prog 6 #[.string s, .string t] w fun e w' => e = .returned (.bool true) ∧ Below w.heap.size w w' := by
  unfold maxLen at hs ht
  have HT := Lib.hid hT
  have HE := Lib.hid hE
  clear hT hE
  go_enter Tryz.func6, Tryz.ntmps6
  go_wp2_with fail
  refine (both_any s t (by omega) (by omega) w).mono ?_
  rintro e w1 ⟨hb, ⟨x, y, rfl⟩ | ⟨la, lb, A, B, ca, cb, hS, hS2, hsz, rfl⟩⟩
  · have C := Lib.hid (awake_any w1 (HT.out.step hb) (HE.out.below hb))
    have HB := Lib.hid hb
    clear hb
    go_wp2_with fail
    refine C.out.mono ?_
    rintro e w2 ⟨rfl, hb2⟩
    have HB2 := Lib.hid (step_below HB.out hb2)
    clear hb2
    go_wp2_with fail
    go_ret
    exact ⟨rfl, HB2.out⟩
  · have HB := Lib.hid hb
    have HS := Lib.hid hS
    have HS2 := Lib.hid hS2
    have hl1 := hS.2.2.2.1
    have hl2 := hS2.2.2.2.1
    clear hb hS hS2
    by_cases hn : la.length + lb.length ≤ 200
    · have hz : ¬ (la.length : Int) + (lb.length : Int) > 200 := by omega
      have HN := Lib.hid hn
      clear hn
      go_wp2_with fail
      refine (HS.out.bete HS2.out).mono ?_
      rintro e w2 hbe
      obtain ⟨X, n, c, rfl, hb, hc⟩ := HS.out.apply HS2.out hbe
      have HB2 := Lib.hid (step_below HB.out hb)
      have HS3 := Lib.hid (HS.out.below hb)
      have HS4 := Lib.hid (HS2.out.below hb)
      have C := Lib.hid hc
      clear hb hc hbe
      go_wp2_with fail
      refine C.out.mono ?_
      rintro e w3 ⟨rfl, hb⟩
      have HB3 := Lib.hid (step_below HB2.out hb)
      have HS5 := Lib.hid (HS3.out.below hb)
      have HS6 := Lib.hid (HS4.out.below hb)
      clear hb C
      go_wp2_with fail
      refine (HS6.out.bete HS5.out).mono ?_
      rintro e w4 hbe
      obtain ⟨X2, n2, c2, rfl, hb, hc⟩ := HS6.out.apply HS5.out hbe
      have HB4 := Lib.hid (step_below HB3.out hb)
      have HS7 := Lib.hid (HS5.out.below hb)
      have HS8 := Lib.hid (HS6.out.below hb)
      have C2 := Lib.hid hc
      clear hb hc hbe
      go_wp2_with fail
      refine C2.out.mono ?_
      rintro e w5 ⟨rfl, hb⟩
      have HB5 := Lib.hid (step_below HB4.out hb)
      have HS9 := Lib.hid (HS7.out.below hb)
      have HSa := Lib.hid (HS8.out.below hb)
      clear hb C2
      go_wp2_with fail
      refine (awake_any w5 (HT.out.step HB5.out) (HE.out.below HB5.out)).mono ?_
      rintro e w6 ⟨rfl, hb⟩
      have HB6 := Lib.hid (step_below HB5.out hb)
      have HSb := Lib.hid (HS9.out.below hb)
      have HSc := Lib.hid (HSa.out.below hb)
      clear hb
      go_wp2_with fail
      refine (keptl_any s t la lb A B ca cb w6 HSb.out HSc.out HN.out).mono ?_
      rintro e w7 ⟨rfl, hb⟩
      have HB7 := Lib.hid (step_below HB6.out hb)
      have HSd := Lib.hid (HSb.out.below hb)
      have HSe := Lib.hid (HSc.out.below hb)
      clear hb
      go_wp2_with fail
      refine (keptl_any t s lb la B A cb ca w7 HSe.out HSd.out (by have := HN.out; omega)).mono ?_
      rintro e w8 ⟨rfl, hb⟩
      have HB8 := Lib.hid (step_below HB7.out hb)
      clear hb
      rw [Dl.lcs_comm (bs (unitsL lb)) (bs (unitsL la))]
      go_wp2_with fail
      go_ret
      exact ⟨by simp, HB8.out⟩
    · have hz : (la.length : Int) + (lb.length : Int) > 200 := by omega
      clear hn
      go_wp2_with fail
      refine (awake_any w1 (HT.out.step HB.out) (HE.out.below HB.out)).mono ?_
      rintro e w2 ⟨rfl, hb2⟩
      have HB2 := Lib.hid (step_below HB.out hb2)
      clear hb2
      go_wp2_with fail
      go_ret
      exact ⟨rfl, HB2.out⟩
end Go.Proofs.YthbmnnnlkgbieaaGreatDoor
