/- Contracts: the document's Lex: signs; one token, whatever it is. -/
import Derived.Test.YthlkjfkgdijfdaaGreatDoorLD
namespace Go.Proofs.YthlkjfkgdijfdaaGreatDoor
open Go.RowKit
def signAt (s : ByteArray) (k : Nat) : Nat × Nat × Nat := if Lib.hasPrefix (tl s k) [61, 61] = true then (5, k + 2, 0) else if 0 ≤ Lib.indexByte signs ((tl s k).getD 0 0) then (5, k + 1, 0) else (0, 0, 21)
theorem sign_ix (b : UInt8) : decide (0 ≤ Lib.indexByte signs b) = signs.contains b := by
  have key : ∀ n, n < 256 → decide (0 ≤ Lib.indexByte signs n.toUInt8) = signs.contains n.toUInt8 := by decide +kernel
  have := key b.toNat (UInt8.toNat_lt b)
  rw [show b.toNat.toUInt8 = b by simp [Nat.toUInt8]] at this
  exact this
theorem sign_two (s : ByteArray) (k : Nat) (hk : k < s.size) (hlt : k + 1 < s.size) (ha : ((s[k]'hk).toNat : Int) = 61) (hb : ((s[k + 1]'hlt).toNat : Int) = 61) : signAt s k = (5, k + 2, 0) := by
  unfold signAt
  have e : tl s k = 61 :: 61 :: tl s (k + 2) := by
    rw [tl_cons s k hk, tl_cons s (k + 1) hlt, b_nat (n := 61) ha (by decide), b_nat (n := 61) hb (by decide)]
    rfl
  rw [e, if_pos (by simp [Lib.hasPrefix])]
theorem sign_one (s : ByteArray) (k : Nat) (hk : k < s.size) (h4 : (¬ ((k : Int) + 1 < (s.size : Int))) ∨ (((k : Int) + 1 < (s.size : Int)) ∧ (((s[k]'hk).toNat : Int) == 61) = false) ∨ (∃ h : k + 1 < s.size, ((s[k]'hk).toNat : Int) = 61 ∧ (((s[k + 1]'h).toNat : Int) == 61) = false)) : signAt s k = if signs.contains (s[k]'hk) = true then (5, k + 1, 0) else (0, 0, 21) := by
  unfold signAt
  have e0 : (tl s k).getD 0 0 = s[k]'hk := by rw [tl_cons s k hk]; rfl
  have e1 : Lib.hasPrefix (tl s k) [61, 61] = false := by
    rw [tl_cons s k hk]
    rcases h4 with h4 | ⟨_, h5⟩ | ⟨h4, h5, h6⟩
    · rw [tl_end s (k + 1) (by omega)]
      simp [Lib.hasPrefix, List.isPrefixOf]
    · have : ((61 : UInt8) == s[k]'hk) = false := by
        rw [beq_eq_false_iff_ne]
        exact fun h => by rw [← h] at h5; revert h5; decide
      simp [Lib.hasPrefix, List.isPrefixOf, this]
    · have : ((61 : UInt8) == s[k + 1]'h4) = false := by
        rw [beq_eq_false_iff_ne]
        exact fun h => by rw [← h] at h6; revert h6; decide
      rw [tl_cons s (k + 1) h4]
      simp [Lib.hasPrefix, List.isPrefixOf, this]
  rw [e0, e1, if_neg (by decide), ← sign_ix]
  by_cases h : 0 ≤ Lib.indexByte signs (s[k]'hk)
  · rw [if_pos h, if_pos (decide_eq_true h)]
  · rw [if_neg h, if_neg (by rw [decide_eq_false h]; decide)]

set_option maxHeartbeats 4000000 in
set_option maxRecDepth 100000 in
theorem one_sign (s : ByteArray) (k : Nat) (w : World) (hs : s.size ≤ 99998) (hk : k < s.size) (hl : letN ((s[k]'hk).toNat : Int) = false) (hd : digN ((s[k]'hk).toNat : Int) = false) (hq : (((s[k]'hk).toNat : Int) == 34) = false) : Calls Tryz.prog 33 #[.string s, .int .i64 k] w fun e w' => e = tri (signAt s k) ∧ Below w.heap.size w w' := by
  have B0 := Lib.hid (Below.refl w.heap.size w)
  obtain ⟨x, hx⟩ : ∃ x, x = signAt s k := ⟨_, rfl⟩
  rw [← hx]
  by_cases h3 : ∃ h : k + 1 < s.size, ((s[k]'hk).toNat : Int) = 61 ∧ ((s[k + 1]'h).toNat : Int) = 61
  · obtain ⟨hlt, ha, hb⟩ := h3
    have HX : Hid (x = (5, k + 2, 0)) := by unfold Hid; rw [hx]; exact sign_two s k hk hlt ha hb
    clear hx
    go_enter Tryz.func33, Tryz.ntmps33
    go_wp2_with fail
    refine (rletter_any _ _).mono ?_
    rintro e w1 ⟨rfl, rfl⟩
    go_wp2_with fail
    refine (rdigit_any _ _).mono ?_
    rintro e w1 ⟨rfl, rfl⟩
    go_wp2_with fail
    go_ret3
    exact ⟨tri_eq (a := 5) (b := k + 2) (c := 0) HX.out, B0.out⟩
  · have h4 : (¬ ((k : Int) + 1 < (s.size : Int))) ∨ (((k : Int) + 1 < (s.size : Int)) ∧ (((s[k]'hk).toNat : Int) == 61) = false) ∨ (∃ h : k + 1 < s.size, ((s[k]'hk).toNat : Int) = 61 ∧ (((s[k + 1]'h).toNat : Int) == 61) = false) := by
      by_cases hlt : k + 1 < s.size
      · by_cases ha : ((s[k]'hk).toNat : Int) = 61
        · refine .inr (.inr ⟨hlt, ha, ?_⟩)
          rw [beq_eq_false_iff_ne]
          intro hb
          exact h3 ⟨hlt, ha, hb⟩
        · refine .inr (.inl ⟨by omega, ?_⟩)
          rw [beq_eq_false_iff_ne]; exact ha
      · exact .inl (by omega)
    clear h3
    have HX : Hid (x = if signs.contains (s[k]'hk) = true then (5, k + 1, 0) else (0, 0, 21)) := by unfold Hid; rw [hx]; exact sign_one s k hk h4
    clear hx
    obtain ⟨M, hM⟩ : ∃ M, M = signs.contains (s[k]'hk) := ⟨_, rfl⟩
    rw [← hM] at HX
    have HM := Lib.hid hM
    clear hM
    rcases h4 with h4 | ⟨h4, h5⟩ | ⟨h4, h5, h6⟩
    all_goals
      go_enter Tryz.func33, Tryz.ntmps33
      go_wp2_with fail
      refine (rletter_any _ _).mono ?_
      rintro e w1 ⟨rfl, rfl⟩
      go_wp2_with fail
      refine (rdigit_any _ _).mono ?_
      rintro e w1 ⟨rfl, rfl⟩
      go_wp2_with fail
      obtain ⟨A, hA⟩ : ∃ A : ByteArray, A = { data := #[40, 41, 123, 125, 44, 59, 58, 46, 61, 43, 45, 42, 60] } := ⟨_, rfl⟩
      rw [← hA]
      have hAs : A.size ≤ 100000 := by rw [hA]; decide
      have HM2 : Hid (A.data.toList.contains (s[k]'hk) = M) := by unfold Hid; rw [HM.out, hA]; rfl
      clear hA
      go_loopg [15] (A.size + 1) (fun kx u wr => ∃ (i : Nat), u = .int .i64 i ∧ i ≤ A.size ∧ A.size - i ≤ kx ∧ Hid ((A.data.toList.drop i).contains (s[k]'hk) = M) ∧ Hid (Below w.heap.size w wr))
      case atStart => exact ⟨0, rfl, by omega, by omega, HM2.out, B0.out⟩
      case round =>
        obtain ⟨i, rfl, hi, hkx2, HF, HW⟩ := hrel
        by_cases hlt2 : i < A.size
        · have hdr : A.data.toList.drop i = A[i]'hlt2 :: A.data.toList.drop (i + 1) := tl_cons A i hlt2
          cases hx : (((A[i]'hlt2).toNat : Int) == ((s[k]'hk).toNat : Int))
          · have HF2 : Hid ((A.data.toList.drop (i + 1)).contains (s[k]'hk) = M) := by
              have h := HF.out
              have hne : ¬ s[k]'hk = A[i]'hlt2 := fun h => by rw [h] at hx; simp at hx
              rw [hdr, List.contains_cons, show (s[k]'hk == A[i]'hlt2) = false by rw [beq_eq_false_iff_ne]; exact hne, Bool.false_or] at h
              exact h
            clear hdr
            go_wp2_with fail
            go_quiet (fail)
            go_wp2_with fail
            go_roundg (A.size - (i + 1))
            case measure => omega
            case rel => exact ⟨i + 1, by go_num, by omega, by omega, HF2.out, below_drewN HW.out _⟩
          · have HXX : Hid (x = (5, k + 1, 0)) := by
              have h := HF.out
              have heq : s[k]'hk = A[i]'hlt2 := UInt8.toNat_inj.1 (by have := eq_of_beq hx; omega)
              rw [hdr, List.contains_cons, show (s[k]'hk == A[i]'hlt2) = true by rw [beq_iff_eq]; exact heq, Bool.true_or] at h
              unfold Hid; rw [HX.out, ← h]; rfl
            clear hdr
            go_wp2_with fail
            go_quiet (fail)
            go_wp2_with fail
            go_ret3
            exact ⟨tri_eq (a := 5) (b := k + 1) (c := 0) HXX.out, below_drewN HW.out _⟩
        · obtain rfl : i = A.size := by omega
          have hnl2 : ¬ (A.size : Int) < (A.size : Int) := by omega
          have HXX : Hid (x = (0, 0, 21)) := by
            have h := HF.out
            rw [List.drop_of_length_le (by simp)] at h
            unfold Hid; rw [HX.out, ← h]; rfl
          go_wp2_with fail
          go_ret3
          exact ⟨tri_eq (a := 0) (b := 0) (c := 21) HXX.out, HW.out⟩

/-- One token of a text, at a place inside it: its kind, its end, what is wrong. -/
def errK0 (s : ByteArray) (k : Nat) : Nat := (firstL (tl s k)).2.2
def oneX (s : ByteArray) (k : Nat) : Nat × Nat × Nat := if errK0 s k = 0 then ((firstL (tl s k)).1, k + (firstL (tl s k)).2.1, 0) else (0, 0, errK0 s k)
theorem one_any (s : ByteArray) (k : Nat) (w : World) (hs : s.size ≤ 99998) (hk : k < s.size) : Calls Tryz.prog 33 #[.string s, .int .i64 k] w fun e w' => e = tri (oneX s k) ∧ Below w.heap.size w w' := by
  have h0 : (tl s k).getD 0 0 = s[k]'hk := by rw [tl_cons s k hk]; rfl
  have hne : tl s k ≠ [] := tl_ne s k hk
  cases h1 : letN ((s[k]'hk).toNat : Int)
  · cases h2 : digN ((s[k]'hk).toNat : Int)
    · by_cases h3 : ((s[k]'hk).toNat : Int) = 34
      · have e : oneX s k = quotAt s k := by
          have hf : firstL (tl s k) = quotL (tl s k) := by
            unfold firstL
            rw [if_neg hne, h0, h1, if_neg (by decide), h2, if_neg (by decide), if_pos (by omega)]
          unfold oneX errK0 quotAt
          rw [hf]
          unfold quotL
          split <;> rfl
        rw [e]
        exact one_quote s k w hs hk h1 h2 h3
      · have e : oneX s k = signAt s k := by
          have hf : firstL (tl s k) = signL (tl s k) := by
            unfold firstL
            rw [if_neg hne, h0, h1, if_neg (by decide), h2, if_neg (by decide), if_neg (by omega)]
          unfold oneX errK0 signAt
          rw [hf]
          unfold signL
          split
          · rfl
          · split <;> rfl
        rw [e]
        exact one_sign s k w hs hk h1 h2 (by rw [beq_eq_false_iff_ne]; exact h3)
    · have e : oneX s k = numAt s k := by
        have hf : firstL (tl s k) = numL (tl s k) := by
          unfold firstL
          rw [if_neg hne, h0, h1, if_neg (by decide), h2, if_pos rfl]
        unfold oneX errK0 numAt
        rw [hf]
        unfold numL
        split <;> rfl
      rw [e]
      exact one_num s k w (by omega) hk h1 h2
  · have e : oneX s k = wordAt s k := by
      have hf : firstL (tl s k) = wordL (tl s k) := by
        unfold firstL
        rw [if_neg hne, h0, h1, if_pos rfl]
      unfold oneX errK0 wordAt
      rw [hf]
      unfold wordL
      split
      · rfl
      · split <;> rfl
    rw [e]
    exact one_word s k w (by omega) hk h1
end Go.Proofs.YthlkjfkgdijfdaaGreatDoor
