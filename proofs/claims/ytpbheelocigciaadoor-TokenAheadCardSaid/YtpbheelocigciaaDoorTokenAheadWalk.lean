/- The walk of the law TokenAhead. -/
import Derived.Test.YtpbheelocigciaaDoorAH
import Derived.Test.YtpbheelocigciaaDoorTS
import Derived.IntWalk
import Derived.BigRegion
import Derived.Lib.QuietBelow
namespace Go.Proofs.YtpbheelocigciaaDoor
open Go.RowKit

theorem TokAt.take {w : World} {A : Option Addr} {l : List Tok} (h : TokAt w A l) (k : Nat) : TokAt w A (l.take k) := fun hn => by
  rw [List.length_take] at hn
  obtain ⟨g, e, hg, hc⟩ := h (by omega)
  refine ⟨g, e, hg, fun i hi => ?_⟩
  have hi2 : i < l.length := by rw [List.length_take] at hi; omega
  have := hc i hi2
  rw [List.getElem_take]
  exact this

set_option maxHeartbeats 8000000 in
set_option maxRecDepth 100000 in
theorem tokenAhead.walk (s : ByteArray) (n : Int) (hn0 : 0 ≤ n) (hn1 : n < 65536) (w : World) (hT : Tabs w) (hE : Errs w) (hs : s.size ≤ maxLen) :
    Calls Tryd.prog 11 #[.string s, .int .u16 n] w fun e w' => e = .returned (.bool true) ∧ Below w.heap.size w w' := by
  unfold maxLen at hs
  have C := Lib.hid (lext_any s (by omega) w hT hE)
  have HT := Lib.hid hT
  have HE := Lib.hid hE
  clear hT hE
  go_enter Tryd.func11, Tryd.ntmps11
  go_wp2_with fail
  refine C.out.mono ?_
  rintro e w1 ⟨hb, h⟩
  have HB := Lib.hid hb
  clear hb
  cases hr : lexR s with
  | bad er a =>
    rw [hr] at h
    subst h
    have hne := lexR_bad hr
    have z1 : (er != 0) = true := by simpa using hne
    clear hr hne
    go_wp2_with fail
    refine (awake4_any _ (HT.out.step HB.out) (HE.out.below HB.out)).mono ?_
    rintro e w2 ⟨rfl, hb⟩
    have HB2 := Lib.hid (step_below HB.out hb)
    clear hb
    go_wp2_with fail
    go_ret
    exact ⟨by simp, HB2.out⟩
  | good l =>
    rw [hr] at h
    obtain ⟨A, cap, rfl, ht, hl4, hcap⟩ := h
    obtain ⟨⟨g1, g2, g3⟩, hsz⟩ := lexR_good hr
    obtain ⟨N, hN⟩ : ∃ N, N = l.length := ⟨_, rfl⟩
    have HTA := Lib.hid ht
    have HR := Lib.hid hr
    have HN := Lib.hid hN
    have hN0 : 0 < N := by omega
    have hN4 : N ≤ 4000 := by omega
    have hNc : N ≤ cap := by have := hcap (by omega); omega
    have HJL : Hid ((jl l).length ≤ 16384) := by
      show _ ≤ _
      rw [g1, tl_zero]
      simpa using hsz
    rw [← hN]
    clear hr ht hcap g1 g2 g3 hN hl4
    by_cases h6 : N > 600
    · have h6z : (N : Int) > 600 := by omega
      go_wp2_with fail
      refine (awake4_any _ (HT.out.step HB.out) (HE.out.below HB.out)).mono ?_
      rintro e w2 ⟨rfl, hb⟩
      have HB2 := Lib.hid (step_below HB.out hb)
      clear hb
      go_wp2_with fail
      go_ret
      exact ⟨by simp, HB2.out⟩
    · have h6z : ¬ (N : Int) > 600 := by omega
      have zN : ((N : Int) == 0) = false := by simp; omega
      obtain ⟨k, hk⟩ : ∃ k : Nat, n % (N : Int) = (k : Int) := ⟨(n % (N : Int)).toNat, by
        have := Int.emod_nonneg n (show (N : Int) ≠ 0 by omega); omega⟩
      have hkN : k < N := by
        have := Int.emod_lt_of_pos n (show (0 : Int) < (N : Int) by omega)
        omega
      have hk1 : (k : Int) ≤ (cap : Int) := by omega
      have hkl : (l.take k).length = k := by rw [List.length_take]; have := HN.out; omega
      have hjk : (jl (l.take k)).length ≤ 16384 := by
        have := HJL.out
        have e := congrArg jl (List.take_append_drop k l)
        rw [jl_append] at e
        rw [← e, List.length_append] at this
        omega
      have cj := join_any (l.take k) A cap w1 (HTA.out.take k) (by omega) (by omega) (by omega)
      rw [hkl] at cj
      obtain ⟨S, hS⟩ : ∃ S : ByteArray, S = ⟨(jl (l.take k)).toArray⟩ := ⟨_, rfl⟩
      have hR := lexR_cut HR.out k (by have := HN.out; omega) (s' := S) (by rw [hS])
      have hSs : S.size = (jl (l.take k)).length := by rw [hS]; simp [ByteArray.size]
      rw [← hS] at cj
      have CJ := Lib.hid cj
      have HR2 := Lib.hid hR
      have hSz : (S.size : Int) ≤ 9223372036854775807 := by omega
      have hkl2 := Lib.hid hkl
      clear cj hR hkl hjk hS hSs
      go_wp2_with fail
      refine CJ.out.mono ?_
      rintro e w2 ⟨rfl, hb⟩
      have HB2 := Lib.hid (step_below HB.out hb)
      have HTA2 := Lib.hid (HTA.out.below hb)
      clear hb
      go_wp2_with fail
      refine (lext_any S hSz _ (HT.out.step HB2.out) (HE.out.below HB2.out)).mono ?_
      rintro e w3 ⟨hb, h⟩
      rw [HR2.out] at h
      obtain ⟨A2, cap2, rfl, ht2, _, hcap2⟩ := h
      have HB3 := Lib.hid (step_below HB2.out hb)
      have HTA3 := Lib.hid (HTA2.out.below hb)
      have HTB3 := Lib.hid ht2
      have e2 : (l.take k ++ [endT (jl (l.take k)).length]).length = k + 1 := by rw [List.length_append, hkl2.out]; rfl
      rw [e2] at hcap2 ⊢
      have hc2 : k + 1 ≤ cap2 := hcap2 (by omega)
      clear hb ht2 hcap2
      obtain ⟨g2, rfl, hg2, hc3⟩ := HTB3.out (by omega)
      have hm0 := hc3 k (by omega)
      have hel : (l.take k ++ [endT (jl (l.take k)).length])[k]'(by omega) = endT (jl (l.take k)).length := by
        rw [List.getElem_append_right (by have := hkl2.out; omega)]
        simp
      rw [hel] at hm0
      have f0 : w3.cell? ⟨g2, k * 4, none⟩ = some (.int .i64 0) := hm0.1
      have f2 : w3.cell? ⟨g2, k * 4 + 2, none⟩ = some (.string ⟨#[]⟩) := hm0.2.2.1
      have T1 : Hid (TokAt w3 (some ⟨g2, 0, none⟩) (l.take k)) := by
        have := HTB3.out.take k
        rwa [List.take_left' hkl2.out] at this
      have T2 : Hid (TokAt w3 A (l.take k)) := HTA3.out.take k
      have D28 : Hid (∀ d os, Calls Tryd.prog 28 #[] (Go.Sort.grow (redrawn w3 d) os) fun e w' => e = .returned (.bool true) ∧ Below (Go.Sort.grow (redrawn w3 d) os).heap.size (Go.Sort.grow (redrawn w3 d) os) w') :=
        fun d os => awake4_any _ (HT.out.step (step_below HB3.out (below_regrown w3 d os))) (HE.out.below (step_below HB3.out (below_regrown w3 d os)))
      have D34 : Hid (∀ d os, Calls Tryd.prog 34 #[.slice (some ⟨g2, 0, none⟩) k cap2, .slice A k cap] (Go.Sort.grow (redrawn w3 d) os) fun e w' => e = .returned (.bool true) ∧ Below (Go.Sort.grow (redrawn w3 d) os).heap.size (Go.Sort.grow (redrawn w3 d) os) w') := fun d os => by
        have := same_any (l.take k) (some ⟨g2, 0, none⟩) A cap2 cap (Go.Sort.grow (redrawn w3 d) os) (T1.out.below (below_regrown w3 d os)) (T2.out.below (below_regrown w3 d os)) (by have := hkl2.out; omega) (by have := hkl2.out; omega) (by have := hkl2.out; omega)
        rwa [hkl2.out] at this
      have z0 := fun d os => cell_regrown f0 d os
      have z2 := fun d os => cell_regrown f2 d os
      have hk2 : (k : Int) ≤ (cap2 : Int) := by omega
      have hkk : (k : Int) < (k : Int) + 1 := by omega
      clear hc3 hm0 hel f0 f2 e2
      go_wp2_with fail
      refine wp_region_quiet_below (by kernel_rfl) (by kernel_rfl) ?_
      repeat (go_big_quiet_step (first
        | (go_at_call 28; exact Calls.regrown_of (D28.out _ _))
        | (go_at_call 34; exact Calls.regrown_of (D34.out _ _))))
      refine wpQuiet_nil ?_
      intro _ hw'
      obtain ⟨⟨dq, osq⟩, hw''⟩ := hw'
      subst hw''
      have KF := Lib.hid (step_below HB3.out (below_regrown w3 dq osq))
      go_wp2
      all_goals
        go_ret
        exact ⟨by simp, KF.out⟩
theorem u16w {n : Int} (h : (Lit.int .u16 n).wf = true) : 0 ≤ n ∧ n < 65536 := by
  simp [Lit.wf, IntKind.min, IntKind.max, IntKind.bits, IntKind.signed] at h
  omega
end Go.Proofs.YtpbheelocigciaaDoor
