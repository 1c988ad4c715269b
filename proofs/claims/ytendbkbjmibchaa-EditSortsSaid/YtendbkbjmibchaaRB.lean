/- Contracts: what whetstoneref02.Apply answers. -/
import Derived.Test.YtendbkbjmibchaaRA
namespace Go.Proofs.Ytendbkbjmibchaa
open Go.RowKit

set_option maxHeartbeats 2000000 in
theorem rapply_no (s : ByteArray) (A : Option Addr) (cap : Nat) (es : List Ed) (w : World) (hes : Eds w w.heap.size A es) (hl : es.length ≤ 100000) (hs : snd es s.size ≠ 0) :
    Calls Try.prog 34 #[.string s, .slice A es.length cap] w fun e w' => e = .returned (.tuple #[.string ⟨#[]⟩, .int .i64 (snd es s.size)]) ∧ Below w.heap.size w w' := by
  have hne : (snd es s.size != 0) = true := by simpa using hs
  have HES := Lib.hid hes
  clear hes hs
  go_enter Try.func34, Try.ntmps34
  go_wp2_with fail
  refine (rsound_edits A cap es s.size _ HES.out hl).mono ?_
  rintro e w1 ⟨rfl, hb⟩
  have HB := Lib.hid hb
  clear hb
  go_wp2
  go_ret2
  exact ⟨rfl, HB.out⟩

set_option maxHeartbeats 8000000 in
set_option maxRecDepth 100000 in
theorem rapply_ok (s : ByteArray) (A : Option Addr) (cap : Nat) (es : List Ed) (w : World) (hes : Eds w w.heap.size A es) (hl : es.length ≤ 100000) (hs : snd es s.size = 0) (hlen : (apd s es).length ≤ 140737488355328) (hss : s.size ≤ 140737488355328) :
    Calls Try.prog 34 #[.string s, .slice A es.length cap] w fun e w' => e = .returned (.tuple #[.string ⟨(apd s es).toArray⟩, .int .i64 0]) ∧ Below w.heap.size w w' := by
  have HES := Lib.hid hes
  have HS := Lib.hid hs
  clear hes hs
  go_enter Try.func34, Try.ntmps34
  go_wp2_with fail
  refine (rsound_edits A cap es s.size _ HES.out hl).mono ?_
  rintro e w1 ⟨rfl, hb⟩
  rw [HS.out]
  have HB := Lib.hid hb
  have HE := Lib.hid (HES.out.below hb)
  clear hb
  go_wp2_with fail
  go_loop [7, 8, 9, 10] (fun o jx i _ => ∃ (k j : Nat) (ob : ByteArray), k ≤ s.size + 1 ∧ j ≤ es.length ∧ i = .int .i64 k ∧ jx = .int .i64 j ∧ o = .string ob ∧ Laid s es k j ob) (fun _ _ i _ => s.size + 1 - (intOf i).toNat)
  case atStart => exact ⟨0, 0, ⟨#[]⟩, by omega, by omega, rfl, rfl, rfl, laid_start s es HS.out⟩
  case round =>
    obtain ⟨k, j, o, hk, hj, rfl, rfl, rfl, hla⟩ := hrel
    have HLA := Lib.hid hla
    have hos : o.size ≤ 140737488355328 := Nat.le_trans (laid_size hla) hlen
    clear hla
    by_cases hlt : k < s.size + 1
    · by_cases hjl : j < es.length
      · obtain ⟨bb, off, rfl, hbl, hcell⟩ := HE.out (by omega)
        obtain ⟨q0, q1, q2⟩ := hcell j hjl
        have HC := Lib.hid hcell
        clear hcell
        rcases Int.lt_trichotomy es[j].f (k : Int) with hf | hf | hf
        · obtain ⟨_, hll⟩ := HLA.out.2
          have hkt := hll _ _ (drop_at es j hjl)
          clear hll
          by_cases ht : es[j].t = k
          · obtain ⟨m, _, _, hlf, hnx, _⟩ := laid_over HLA.out hjl ht
            have g2 : (es[j].t == (k : Int)) = true := by simpa using ht
            have g1 : (es[j].f == (k : Int)) = false := by rw [beq_eq_false_iff_ne]; omega
            by_cases hj1 : j + 1 < es.length
            · obtain ⟨r0, r1, r2⟩ := HC.out (j + 1) hj1
              have hd := drop_at es (j + 1) hj1
              have hf1 := hnx _ _ hd
              rw [hd] at hlf
              obtain ⟨⟨p2, hp2⟩, _⟩ := hlf
              obtain ⟨_, k1, k2, _⟩ := sndGo_cons hp2
              have hks : k < s.size := by omega
              have HN := Lib.hid (laid_B4 HLA.out hjl ht hf hks)
              have g3 : decide (es[j + 1].f ≤ (k : Int)) = false := by simpa using hf1
              clear ht hf hkt hf1 hp2 k1 k2 hd hnx
              go_wp2_with fail
              go_round
              case rel => exact ⟨k + 1, j + 1, _, by omega, by omega, by go_num, by go_num, rfl, HN.out⟩
              case measure => simp [intOf]; omega
            · have hj2 : j + 1 = es.length := by omega
              have hj3 : (es.length : Int) ≤ (j : Int) + 1 := by omega
              by_cases hks : k < s.size
              case' pos => have HN := Lib.hid (laid_B4 HLA.out hjl ht hf hks)
              case' neg => have HN := Lib.hid (laid_B40 HLA.out hjl ht hf (by omega))
              all_goals
                clear ht hf hkt hlf hnx hj2 hj1
                go_wp2_with fail
                go_round
                case rel => exact ⟨k + 1, j + 1, _, by omega, by omega, by go_num, by go_num, rfl, HN.out⟩
                case measure => simp [intOf]; omega
          · have hkt' : (k : Int) < es[j].t := by omega
            have HN := Lib.hid (laid_B5 HLA.out hjl hkt' hf)
            have g2 : (es[j].t == (k : Int)) = false := by rw [beq_eq_false_iff_ne]; exact ht
            have g1 : (es[j].f == (k : Int)) = false := by rw [beq_eq_false_iff_ne]; omega
            have g3 : es[j].f ≤ (k : Int) := by omega
            clear ht hf hkt
            go_wp2_with fail
            all_goals
              go_round
              case rel => exact ⟨k + 1, j, _, by omega, hj, by go_num, rfl, rfl, HN.out⟩
              case measure => simp [intOf]; omega
        · obtain ⟨_, hll⟩ := HLA.out.2
          have hkt := hll _ _ (drop_at es j hjl)
          clear hll
          have g1 : (es[j].f == (k : Int)) = true := by simpa using hf
          by_cases ht : es[j].t = k
          · obtain ⟨m, hm, heq, hlf, hnx, _⟩ := laid_over HLA.out hjl ht
            have hox : o.size + es[j].x.size ≤ 140737488355328 := by
              have := congrArg List.length heq
              rw [hm, if_pos hf] at this
              simp only [List.length_append, Array.length_toList] at this
              have e1 : o.data.size = o.size := rfl
              have e2 : es[j].x.data.size = es[j].x.size := rfl
              omega
            have g2 : (es[j].t == (k : Int)) = true := by simpa using ht
            clear hm heq
            by_cases hj1 : j + 1 < es.length
            · obtain ⟨r0, r1, r2⟩ := HC.out (j + 1) hj1
              have hd := drop_at es (j + 1) hj1
              have hf1 := hnx _ _ hd
              rw [hd] at hlf
              obtain ⟨⟨p2, hp2⟩, _⟩ := hlf
              obtain ⟨_, k1, k2, _⟩ := sndGo_cons hp2
              have hks : k < s.size := by omega
              have HN := Lib.hid (laid_B2 HLA.out hjl ht hf hks)
              have g3 : decide (es[j + 1].f ≤ (k : Int)) = false := by simpa using hf1
              clear ht hf hkt hf1 hp2 k1 k2 hd hnx
              go_wp2_with fail
              go_round
              case rel => exact ⟨k + 1, j + 1, _, by omega, by omega, by go_num, by go_num, rfl, HN.out⟩
              case measure => simp [intOf]; omega
            · have hj2 : j + 1 = es.length := by omega
              have hj3 : (es.length : Int) ≤ (j : Int) + 1 := by omega
              by_cases hks : k < s.size
              case' pos => have HN := Lib.hid (laid_B2 HLA.out hjl ht hf hks)
              case' neg => have HN := Lib.hid (laid_B20 HLA.out hjl ht hf (by omega))
              all_goals
                clear ht hf hkt hlf hnx hj2 hj1
                go_wp2_with fail
                go_round
                case rel => exact ⟨k + 1, j + 1, _, by omega, by omega, by go_num, by go_num, rfl, HN.out⟩
                case measure => simp [intOf]; omega
          · have hkt' : (k : Int) < es[j].t := by omega
            have HN := Lib.hid (laid_B3 HLA.out hjl hkt' hf)
            have hox : o.size + es[j].x.size ≤ 140737488355328 := by
              have := Nat.le_trans (laid_size HN.out) hlen
              rwa [ByteArray.size_append] at this
            have g2 : (es[j].t == (k : Int)) = false := by rw [beq_eq_false_iff_ne]; exact ht
            have g3 : es[j].f ≤ (k : Int) := by omega
            clear ht hf hkt
            go_wp2_with fail
            all_goals
              go_round
              case rel => exact ⟨k + 1, j, _, by omega, hj, by go_num, rfl, rfl, HN.out⟩
              case measure => simp [intOf]; omega
        · obtain ⟨hks, hkt, hn⟩ := laid_B1 HLA.out hjl hf
          have HN := Lib.hid hn
          obtain ⟨y, hy⟩ : ∃ y, y = es[j] := ⟨_, rfl⟩
          rw [← hy] at q0 q1 q2 hf hkt
          have g1 : (y.f == (k : Int)) = false := by rw [beq_eq_false_iff_ne]; omega
          have g2 : (y.t == (k : Int)) = false := by rw [beq_eq_false_iff_ne]; omega
          have g3 : decide (y.f ≤ (k : Int)) = false := by simpa using hf
          clear hn hy hf
          go_wp2_with fail
          go_round
          case rel => exact ⟨k + 1, j, _, by omega, hj, by go_num, rfl, rfl, HN.out⟩
          case measure => simp [intOf]; omega
      · have hjn : es.length ≤ j := by omega
        by_cases hks : k < s.size
        · have HN := Lib.hid (laid_A HLA.out hjn hks)
          go_wp2_with fail
          go_round
          case rel => exact ⟨k + 1, j, _, by omega, hj, by go_num, rfl, rfl, HN.out⟩
          case measure => simp [intOf]; omega
        · have HN := Lib.hid (laid_A0 HLA.out hjn (by omega))
          go_wp2_with fail
          go_round
          case rel => exact ⟨k + 1, j, _, by omega, hj, by go_num, rfl, rfl, HN.out⟩
          case measure => simp [intOf]; omega
    · obtain rfl : k = s.size + 1 := by omega
      have HO := Lib.hid (laid_end HLA.out)
      go_wp2
      go_ret2
      exact ⟨by rw [← HO.out]; rfl, HB.out⟩
end Go.Proofs.Ytendbkbjmibchaa
