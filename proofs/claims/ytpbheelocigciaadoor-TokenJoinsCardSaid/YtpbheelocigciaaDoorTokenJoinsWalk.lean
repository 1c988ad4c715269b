/- The walk of the law TokenJoins. -/
import Derived.Test.YtpbheelocigciaaDoorTI
namespace Go.Proofs.YtpbheelocigciaaDoor
open Go.RowKit

theorem jl_le (l : List Tok) (i : Nat) : (jl (l.take i)).length ≤ (jl l).length := by
  have e := congrArg jl (List.take_append_drop i l)
  rw [jl_append] at e
  rw [← e, List.length_append]
  omega
theorem str_empty (s : ByteArray) : (s.toList = [] ↔ s.size = 0) := by
  rw [ByteArray.toList_eq]
  constructor
  · intro h
    have := congrArg List.length h
    simpa using this
  · intro h
    exact List.eq_nil_of_length_eq_zero (by simpa using h)

set_option maxHeartbeats 8000000 in
set_option maxRecDepth 100000 in
theorem tokenJoins.walk (s : ByteArray) (w : World) (hT : Tabs w) (hE : Errs w) (hs : s.size ≤ maxLen) :
    Calls Tryd.prog 8 #[.string s] w fun e w' => e = .returned (.bool true) ∧ Below w.heap.size w w' := by
  unfold maxLen at hs
  have C := Lib.hid (lext_any s (by omega) w hT hE)
  have HT := Lib.hid hT
  have HE := Lib.hid hE
  clear hT hE
  go_enter Tryd.func8, Tryd.ntmps8
  go_wp2_with fail
  refine C.out.mono ?_
  rintro e w1 ⟨hb, h⟩
  have HB := Lib.hid hb
  clear hb
  cases hr : lexR s with
  | bad er a =>
    rw [hr] at h
    subst h
    have hne := lexR_bad hr
    have z1 : (er != 0) = true := by simpa using hne
    clear hr hne
    go_wp2_with fail
    refine (awake4_any _ (HT.out.step HB.out) (HE.out.below HB.out)).mono ?_
    rintro e w2 ⟨rfl, hb⟩
    have HB2 := Lib.hid (step_below HB.out hb)
    clear hb
    go_wp2_with fail
    go_ret
    exact ⟨by simp, HB2.out⟩
  | good l =>
    rw [hr] at h
    obtain ⟨A, cap, rfl, ht, hl4, hcap⟩ := h
    obtain ⟨⟨g1, g2, g3⟩, hsz⟩ := lexR_good hr
    have hjs : jl l = s.data.toList := by rw [g1]; exact tl_zero s
    have hjl : (jl l).length = s.size := by rw [hjs]; simp
    have hJ : (⟨(jl l).toArray⟩ : ByteArray) = s := by rw [hjs]
    have cj := join_any l A cap w1 ht hl4 hcap (by omega)
    rw [hJ] at cj
    have CJ := Lib.hid cj
    obtain ⟨N, hN⟩ : ∃ N, N = l.length := ⟨_, rfl⟩
    have HTA := Lib.hid ht
    have HG : Hid (∀ i (h : i < l.length), l[i].at_ = (jl (l.take i)).length + l[i].lead.size ∧ (l[i].kind = 0 ↔ i + 1 = l.length) ∧ (l[i].text.size = 0 ↔ l[i].kind = 0)) := by
      intro i hi
      have := g3 i hi
      simpa using this
    have hN0 : 0 < N := by omega
    have hN4 : N ≤ 4000 := by omega
    have hNc : N ≤ cap := by have := hcap (by omega); omega
    obtain ⟨n, hn⟩ : ∃ n, n + 1 = N := ⟨N - 1, by omega⟩
    have EN : (N : Int) - 1 = (n : Int) := by omega
    have hnN : (n : Int) < (N : Int) := by omega
    rw [← hN] at CJ
    rw [← hN]
    have HN := Lib.hid hN
    have HJL := Lib.hid hjl
    have HJS := Lib.hid hJ
    clear hr ht hcap g1 g2 g3 hjs hjl hJ cj hN hl4
    have zN : ((N : Int) == 0) = false := by simp; omega
    go_wp2_with fail
    refine CJ.out.mono ?_
    rintro e w2 ⟨rfl, hb⟩
    have HB2 := Lib.hid (step_below HB.out hb)
    have HTA2 := Lib.hid (HTA.out.below hb)
    clear hb
    obtain ⟨g, rfl, hg, hc⟩ := HTA2.out (by have := HN.out; omega)
    have hq := (hc n (by have := HN.out; omega)).1
    have hk0 : (l[n]'(by have := HN.out; omega)).kind = 0 := (HG.out n (by have := HN.out; omega)).2.1.2 (by have := HN.out; omega)
    rw [hk0] at hq
    have q0 : w2.cell? ⟨g, n * 4, none⟩ = some (.int .i64 0) := hq
    clear hc hq hk0
    have hnN' : (n : Int) < (N : Int) := hnN
    go_wp2_with fail
    go_loopg [6, 44] N (fun kx o x wr => ∃ i : Nat, x = .int .i64 i ∧ o = .int .i64 (jl (l.take i)).length ∧ i ≤ N ∧ N - i ≤ kx ∧ Hid (Below w.heap.size w wr) ∧ Hid (TokAt wr (some ⟨g, 0, none⟩) l))
    case atStart => exact ⟨0, rfl, rfl, by omega, by omega, HB2.out, HTA2.out⟩
    case round =>
      obtain ⟨i, rfl, rfl, hi, hkx, HBW, HTW⟩ := hrel
      by_cases hlt : i < N
      · have hlz : (i : Int) < (N : Int) := by omega
        have hil : i < l.length := by have := HN.out; omega
        obtain ⟨g', eg, hg', hc⟩ := HTW.out (by omega)
        obtain rfl : g = g' := by injection eg with e; injection e
        obtain ⟨q0, q1, q2, q3⟩ := hc i hil
        obtain ⟨m1, m2, m3⟩ := HG.out i hil
        have hj1 := jl_le l (i + 1)
        have hjt := congrArg List.length (jl_take l i hil)
        simp only [List.length_append, Array.length_toList, ByteArray.size_data] at hjt
        rw [HJL.out] at hj1
        generalize l[i].kind = kd at q0 m2 m3
        generalize l[i].at_ = a at q1 m1
        generalize l[i].lead = ld at q2 m1 hjt
        generalize l[i].text = tx at q3 m3 hjt
        rw [← HN.out] at m2
        obtain ⟨o, ho⟩ : ∃ o, o = (jl (l.take i)).length := ⟨_, rfl⟩
        obtain ⟨o', ho'⟩ : ∃ o', o' = (jl (l.take (i + 1))).length := ⟨_, rfl⟩
        have HO' := Lib.hid ho'
        rw [← ho] at m1 hjt ⊢
        rw [← ho'] at hjt hj1
        have EK1 : (o : Int) + (ld.size : Int) = (a : Int) := by omega
        have EK2 : (a : Int) + (tx.size : Int) = (o' : Int) := by omega
        have ha4 : a ≤ 16384 := by omega
        have ho4 : o' ≤ 16384 := by omega
        have zk : ((kd : Int) == 0) = decide (i + 1 = N) := by
          rw [Bool.eq_iff_iff]; simp only [beq_iff_eq, decide_eq_true_eq]; omega
        have zi : ((i : Int) == (n : Int)) = decide (i + 1 = N) := by
          rw [Bool.eq_iff_iff]; simp only [beq_iff_eq, decide_eq_true_eq]; omega
        have zt : tx.toList.isEmpty = decide (i + 1 = N) := by
          rw [Bool.eq_iff_iff]; simp only [List.isEmpty_iff, str_empty, m3, m2, decide_eq_true_eq]
        have HBW1 := Lib.hid (HBW.out.alloc HBW.out.size (.cells #[.int .i64 kd, .int .i64 a, .string ld, .string tx] 48))
        have HTW1 := Lib.hid (HTW.out.below ((Below.refl _ _).alloc (Nat.le_refl _) (.cells #[.int .i64 kd, .int .i64 a, .string ld, .string tx] 48)))
        clear hc hjt hj1 m1 m2 m3 ho ho'
        generalize decide (i + 1 = N) = d at zk zi zt
        cases d
        all_goals
          go_wp2_with fail
          go_roundg (N - (i + 1))
          case measure => omega
          case rel => exact ⟨i + 1, by simp, by rw [HO'.out], by omega, by omega, HBW1.out, HTW1.out⟩
      · obtain rfl : i = N := by omega
        have hlz : ¬ (i : Int) < (i : Int) := by omega
        clear hlt
        go_wp2_with fail
        refine (awake4_any _ (HT.out.step HBW.out) (HE.out.below HBW.out)).mono ?_
        rintro e w3 ⟨rfl, hb⟩
        have HB3 := Lib.hid (step_below HBW.out hb)
        clear hb
        go_wp2_with fail
        go_ret
        exact ⟨by simp, HB3.out⟩
end Go.Proofs.YtpbheelocigciaaDoor
