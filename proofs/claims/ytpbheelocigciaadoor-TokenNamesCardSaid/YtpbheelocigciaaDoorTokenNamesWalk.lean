/- The law TokenNames returns true, whatever it is given. -/
import Derived.Test.YtpbheelocigciaaDoorTH
namespace Go.Proofs.YtpbheelocigciaaDoor
open Go.RowKit

theorem allW_take {s : ByteArray} {k : Nat} (h : k < s.size) (ha : allW s.data.toList = true) : wdN (s[k]'h).toNat = true := by
  unfold allW at ha
  rw [List.all_eq_true] at ha
  exact ha _ (by simp [ByteArray.getElem_eq_getElem_data])
theorem allW_not {s : ByteArray} {k : Nat} (h : k < s.size) (hw : wdN (s[k]'h).toNat = false) : allW s.data.toList = false := by
  cases ha : allW s.data.toList
  · rfl
  · rw [allW_take h ha] at hw; cases hw
theorem allW_yes {s : ByteArray} (h : ∀ k (hk : k < s.size), wdN (s[k]'hk).toNat = true) : allW s.data.toList = true := by
  unfold allW
  rw [List.all_eq_true]
  intro x hx
  obtain ⟨k, hk, rfl⟩ := List.getElem_of_mem hx
  exact h k (by simpa using hk)

set_option maxHeartbeats 4000000 in
theorem rname_any (s : ByteArray) (hs : s.size ≤ 100000) (w : World) : Calls Tryd.prog 33 #[.string s] w fun e w' => e = .returned (.bool (rnameL s.data.toList)) ∧ Below w.heap.size w w' := by
  obtain ⟨N, hN⟩ : ∃ N, N = rnameL s.data.toList := ⟨_, rfl⟩
  rw [← hN]
  unfold rnameL at hN
  rw [len_list] at hN
  by_cases h0 : s.size = 0
  · have q : ((s.size : Int) == 0) = true := by rw [beq_iff_eq]; omega
    rw [decide_eq_true h0] at hN
    have HN := Lib.hid hN
    clear hN h0
    go_enter Tryd.func33, Tryd.ntmps33
    go_wp2_with fail
    go_ret
    exact ⟨rb (by rw [HN.out]; simp), Below.refl _ _⟩
  have q0 : ((s.size : Int) == 0) = false := by rw [beq_eq_false_iff_ne]; omega
  rw [decide_eq_false h0, Bool.false_or] at hN
  by_cases h40 : s.size > 40
  · have q : (s.size : Int) > 40 := by omega
    rw [decide_eq_true h40] at hN
    have HN := Lib.hid hN
    clear hN h0 h40
    go_enter Tryd.func33, Tryd.ntmps33
    go_wp2_with fail
    go_ret
    exact ⟨rb (by rw [HN.out]; simp), Below.refl _ _⟩
  have q1 : ¬ (s.size : Int) > 40 := by omega
  rw [decide_eq_false h40, Bool.false_or] at hN
  have c1 := rkey_any s w
  cases hk : keyL s.data.toList
  · rw [hk] at c1 hN
    rw [Bool.false_or] at hN
    have h00 : 0 < s.size := by omega
    rw [head_of s h00] at hN
    have c2 := fun w => rdigit_any (s[0]'h00).toNat w
    cases hd : digN (s[0]'h00).toNat
    · rw [hd] at c2 hN
      rw [Bool.not_false, Bool.true_and] at hN
      have HN := Lib.hid hN
      have C1 := Lib.hid c1
      have C2 := Lib.hid c2
      clear c1 c2 hN h0 h40 hk hd
      go_enter Tryd.func33, Tryd.ntmps33
      go_wp2_with fail
      refine C1.out.mono ?_
      rintro e w1 ⟨rfl, hb⟩
      have HB := Lib.hid hb
      clear hb
      go_wp2_with fail
      refine (C2.out _).mono ?_
      rintro e w2 ⟨rfl, rfl⟩
      go_wp2_with fail
      go_loopg [3] s.size (fun kx a wr => ∃ k : Nat, a = .int .i64 k ∧ k ≤ s.size ∧ s.size - k ≤ kx ∧ Hid (∀ j (hj : j < s.size), j < k → wdN (s[j]'hj).toNat = true) ∧ Hid (w1 = wr))
      case atStart => exact ⟨0, rfl, by omega, by omega, fun j hj h => by omega, rfl⟩
      case round =>
        obtain ⟨k, rfl, hk, hkx, HA, HW⟩ := hrel
        obtain rfl := HW.out
        by_cases hlt : k < s.size
        · have hlz : (k : Int) < (s.size : Int) := by omega
          have c3 := fun w => rletter_any (s[k]'hlt).toNat w
          have c4 := fun w => rdigit_any (s[k]'hlt).toNat w
          cases hl : letN (s[k]'hlt).toNat
          · rw [hl] at c3
            cases hg : digN (s[k]'hlt).toNat
            · rw [hg] at c4
              have HF : Hid (N = false) := by
                show _ = _
                rw [HN.out]
                exact allW_not hlt (by unfold wdN; rw [hl, hg]; rfl)
              have C3 := Lib.hid c3
              have C4 := Lib.hid c4
              clear c3 c4 hl hg
              go_wp2_with fail
              refine (C3.out _).mono ?_
              rintro e w2 ⟨rfl, rfl⟩
              go_wp2_with fail
              refine (C4.out _).mono ?_
              rintro e w2 ⟨rfl, rfl⟩
              go_wp2_with fail
              go_ret
              exact ⟨rb (by rw [HF.out]), HB.out⟩
            · rw [hg] at c4
              have HA2 : Hid (∀ j (hj : j < s.size), j < k + 1 → wdN (s[j]'hj).toNat = true) := by
                intro j hj h
                by_cases e : j = k
                · subst e; unfold wdN; rw [hg]; simp
                · exact HA.out j hj (by omega)
              have C3 := Lib.hid c3
              have C4 := Lib.hid c4
              clear c3 c4 hl hg
              go_wp2_with fail
              refine (C3.out _).mono ?_
              rintro e w2 ⟨rfl, rfl⟩
              go_wp2_with fail
              refine (C4.out _).mono ?_
              rintro e w2 ⟨rfl, rfl⟩
              go_wp2_with fail
              go_roundg (s.size - (k + 1))
              case measure => omega
              case rel => exact ⟨k + 1, by go_num, by omega, by omega, HA2, rfl⟩
          · rw [hl] at c3
            have HA2 : Hid (∀ j (hj : j < s.size), j < k + 1 → wdN (s[j]'hj).toNat = true) := by
              intro j hj h
              by_cases e : j = k
              · subst e; unfold wdN; rw [hl]; rfl
              · exact HA.out j hj (by omega)
            have C3 := Lib.hid c3
            clear c3 c4 hl
            go_wp2_with fail
            refine (C3.out _).mono ?_
            rintro e w2 ⟨rfl, rfl⟩
            go_wp2_with fail
            go_roundg (s.size - (k + 1))
            case measure => omega
            case rel => exact ⟨k + 1, by go_num, by omega, by omega, HA2, rfl⟩
        · obtain rfl : k = s.size := by omega
          have HF : Hid (N = true) := by
            show _ = _
            rw [HN.out]
            exact allW_yes fun j hj => HA.out j hj hj
          have hlz : ¬ (s.size : Int) < (s.size : Int) := by omega
          clear hlt
          go_wp2_with fail
          go_ret
          exact ⟨rb (by rw [HF.out]), HB.out⟩
    · rw [hd] at c2 hN
      have HN := Lib.hid hN
      have C1 := Lib.hid c1
      have C2 := Lib.hid c2
      clear c1 c2 hN h0 h40 hk hd
      go_enter Tryd.func33, Tryd.ntmps33
      go_wp2_with fail
      refine C1.out.mono ?_
      rintro e w1 ⟨rfl, hb⟩
      have HB := Lib.hid hb
      clear hb
      go_wp2_with fail
      refine (C2.out _).mono ?_
      rintro e w2 ⟨rfl, rfl⟩
      go_wp2_with fail
      go_ret
      exact ⟨rb (by rw [HN.out]; simp), HB.out⟩
  · rw [hk] at c1 hN
    have HN := Lib.hid hN
    have C1 := Lib.hid c1
    clear c1 hN h0 h40 hk
    go_enter Tryd.func33, Tryd.ntmps33
    go_wp2_with fail
    refine C1.out.mono ?_
    rintro e w1 ⟨rfl, hb⟩
    have HB := Lib.hid hb
    clear hb
    go_wp2_with fail
    go_ret
    exact ⟨rb (by rw [HN.out]; simp), HB.out⟩

/-- The tokens of a name. -/
theorem lex_name (s : ByteArray) (h : nameL s.data.toList = true) : ∃ t, lexR s = .good [⟨1, 0, ⟨#[]⟩, s⟩, t] := by
  have hname := h
  unfold nameL at h
  simp only [Bool.and_eq_true, decide_eq_true_eq, Bool.not_eq_true'] at h
  obtain ⟨⟨⟨⟨hne, hlet⟩, hw⟩, h40⟩, hk⟩ := h
  have hall := (wLen_all s.data.toList).2 hw
  rw [len_list] at h40 hw
  have h0 : 0 < s.size := by rw [← len_list]; exact len_pos hne
  have hgood : badAt s.data.toList = none := ascii_good _ fun b hb => by
    unfold allW at hall
    have := List.all_eq_true.1 hall b hb
    simp [wdN, letN, digN] at this
    omega
  have hlead : lLen (tl s 0) = 0 := by
    rw [tl_zero]
    unfold lLen
    cases hl : s.data.toList with
    | nil => exact absurd hl hne
    | cons b t =>
      rw [hl] at hlet
      have hb : letN b.toNat = true := hlet
      refine runM_stop (go := lGo) ?_
      simp [letN] at hb
      simp [lGo, cmt, blkN]
      have := b.toNat_lt
      omega
  have ha : atK s 0 = 0 := by unfold atK; rw [hlead]
  have hf : firstL (tl s 0) = (1, s.size, 0) := by
    rw [tl_zero]
    unfold firstL
    rw [if_neg hne, if_pos hlet]
    unfold wordL
    rw [hw, List.take_of_length_le (by rw [len_list]; exact Nat.le_refl _), if_neg (by simp [hk]), if_neg (by omega)]
  have ht : tokK s 0 = ⟨1, 0, ⟨#[]⟩, s⟩ := by
    unfold tokK
    rw [ha, hf]
    congr 1
    · exact bytes_ext (by rw [ext_list]; simp)
    · exact bytes_ext (by rw [ext_list]; simp; exact List.take_of_length_le (by simp))
  have hend : endK s 0 = s.size := by unfold endK; rw [ha, hf]; simp
  have herr : errK s 0 = 0 := by unfold errK; rw [ha, hf]
  -- the end
  have ha2 : atK s s.size = s.size := by
    unfold atK
    rw [tl_end s s.size (Nat.le_refl _)]
    rfl
  have hf2 : firstL (tl s s.size) = (0, 0, 0) := by rw [tl_end s s.size (Nat.le_refl _)]; rfl
  have herr2 : errK s s.size = 0 := by unfold errK; rw [ha2, hf2]
  have hk2 : (tokK s s.size).kind = 0 := by unfold tokK; rw [ha2, hf2]
  refine ⟨tokK s s.size, ?_⟩
  unfold lexR
  rw [if_neg (by omega), if_neg (by simp [hgood]), lexF_next herr (by decide) (by rw [ht]; simp), hend, ht]
  have e : lexF s (s.size - 1 + 1) s.size (0 + 1) = .good [tokK s s.size] := lexF_end herr2 (by decide) hk2
  rw [show s.size - 1 + 1 = s.size by omega] at e
  rw [e]
  rfl

set_option maxHeartbeats 1000000 in
theorem tokenNames_far (s : ByteArray) (w : World) (hT : Tabs w) (hE : Errs w) (hs : (s.size : Int) ≤ 9223372036854775807) (hl : 1000 < s.size) :
    Calls Tryd.prog 9 #[.string s] w fun e w' => e = .returned (.bool true) ∧ Below w.heap.size w w' := by
  have C := Lib.hid (awake4_any w hT hE)
  have hz : (s.size : Int) > 1000 := by omega
  clear hT hE
  go_enter Tryd.func9, Tryd.ntmps9
  go_wp2_with fail
  refine C.out.mono ?_
  rintro e w1 ⟨rfl, hb⟩
  have HB := Lib.hid hb
  clear hb
  go_wp2_with fail
  go_ret
  exact ⟨rfl, HB.out⟩

set_option maxHeartbeats 4000000 in
set_option maxRecDepth 100000 in
theorem tokenNames_near (s : ByteArray) (w : World) (hT : Tabs w) (hE : Errs w) (hs : s.size ≤ 1000) :
    Calls Tryd.prog 9 #[.string s] w fun e w' => e = .returned (.bool true) ∧ Below w.heap.size w w' := by
  have hz : ¬ (s.size : Int) > 1000 := by omega
  have c1 := key_any s w
  have c2 := rkey_any s w
  have c3 := fun w => name_any s (by omega) w
  have c4 := fun w => rname_any s (by omega) w
  rw [← name_same] at c4
  obtain ⟨K, hK⟩ : ∃ K, K = keyL s.data.toList := ⟨_, rfl⟩
  rw [← hK] at c1 c2
  cases hN : nameL s.data.toList
  · rw [hN] at c3 c4
    have C1 := Lib.hid c1
    have C2 := Lib.hid c2
    have C3 := Lib.hid c3
    have C4 := Lib.hid c4
    have HT := Lib.hid hT
    have HE := Lib.hid hE
    clear c1 c2 c3 c4 hK hN hT hE
    cases K
    all_goals
      go_enter Tryd.func9, Tryd.ntmps9
      go_wp2_with fail
      refine C1.out.mono ?_
      rintro e w1 ⟨rfl, rfl⟩
      go_wp2_with fail
      refine C2.out.mono ?_
      rintro e w1 ⟨rfl, hb⟩
      have HB1 := Lib.hid hb
      clear hb
      go_wp2_with fail
      refine (C3.out _).mono ?_
      rintro e w2 ⟨rfl, rfl⟩
      go_wp2_with fail
      refine (C4.out _).mono ?_
      rintro e w2 ⟨rfl, hb⟩
      have HB2 := Lib.hid (step_below HB1.out hb)
      clear hb
      go_wp2_with fail
      refine (C3.out _).mono ?_
      rintro e w3 ⟨rfl, rfl⟩
      go_wp2_with fail
      refine (awake4_any _ (HT.out.step HB2.out) (HE.out.below HB2.out)).mono ?_
      rintro e w3 ⟨rfl, hb⟩
      have HB3 := Lib.hid (step_below HB2.out hb)
      clear hb
      go_wp2_with fail
      go_ret
      exact ⟨rfl, HB3.out⟩
  · rw [hN] at c3 c4
    obtain ⟨tk, hlex⟩ := lex_name s hN
    have C1 := Lib.hid c1
    have C2 := Lib.hid c2
    have C3 := Lib.hid c3
    have C4 := Lib.hid c4
    have HT := Lib.hid hT
    have HE := Lib.hid hE
    have HL := Lib.hid hlex
    clear c1 c2 c3 c4 hK hN hT hE hlex
    cases K
    all_goals
      go_enter Tryd.func9, Tryd.ntmps9
      go_wp2_with fail
      refine C1.out.mono ?_
      rintro e w1 ⟨rfl, rfl⟩
      go_wp2_with fail
      refine C2.out.mono ?_
      rintro e w1 ⟨rfl, hb⟩
      have HB1 := Lib.hid hb
      clear hb
      go_wp2_with fail
      refine (C3.out _).mono ?_
      rintro e w2 ⟨rfl, rfl⟩
      go_wp2_with fail
      refine (C4.out _).mono ?_
      rintro e w2 ⟨rfl, hb⟩
      have HB2 := Lib.hid (step_below HB1.out hb)
      clear hb
      go_wp2_with fail
      refine (C3.out _).mono ?_
      rintro e w3 ⟨rfl, rfl⟩
      go_wp2_with fail
      refine (lext_any s (by omega) _ (HT.out.step HB2.out) (HE.out.below HB2.out)).mono ?_
      rintro e w3 ⟨hb, h⟩
      rw [HL.out] at h
      obtain ⟨A, cap, rfl, ht, _, hcap⟩ := h
      have HB3 := Lib.hid (step_below HB2.out hb)
      have HTk := Lib.hid ht
      have e2 : [⟨1, 0, ⟨#[]⟩, s⟩, tk].length = 2 := rfl
      have hc2 : 2 ≤ cap := hcap (by simp)
      rw [e2]
      clear hb ht hcap e2
      go_wp2_with fail
      refine (awake4_any _ (HT.out.step HB3.out) (HE.out.below HB3.out)).mono ?_
      rintro e w4 ⟨rfl, hb⟩
      have HB4 := Lib.hid (step_below HB3.out hb)
      obtain ⟨g, rfl, hg, hc⟩ := (HTk.out.below hb) (by simp)
      have q0 : w4.cell? ⟨g, 0, none⟩ = some (.int .i64 1) := (hc 0 (by simp)).1
      have q1 : w4.cell? ⟨g, 3, none⟩ = some (.string s) := (hc 0 (by simp)).2.2.2
      clear hb hc
      go_wp2_with fail
      go_ret
      exact ⟨by simp, HB4.out⟩
theorem tokenNames.walk (s : ByteArray) (w : World) (hT : Tabs w) (hE : Errs w) (hs : s.size ≤ maxLen) :
    Calls Tryd.prog 9 #[.string s] w fun e w' => e = .returned (.bool true) ∧ Below w.heap.size w w' := by
  unfold maxLen at hs
  by_cases h : 1000 < s.size
  · exact tokenNames_far s w hT hE (by omega) h
  · exact tokenNames_near s w hT hE (by omega)
end Go.Proofs.YtpbheelocigciaaDoor
