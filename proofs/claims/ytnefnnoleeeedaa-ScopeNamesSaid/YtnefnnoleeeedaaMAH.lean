import Derived.Deep.LoopGhost
import Derived.BigQuiet
import Derived.Test.YtnefnnoleeeedaaMAG
import Derived.Test.YtnefnnoleeeedaaMAA
import Derived.IntWalk
namespace Go.Proofs.Ytnefnnoleeeedaa
open Go.RowKit
theorem lead_cons (c : Bool) (b : UInt8) (t : List UInt8) : runM cmt lGo c (b :: t) = if lGo c b.toNat then 1 + runM cmt lGo (cmt c b.toNat) t else 0 := by
  rw [runM]
theorem lead_blank {b : UInt8} {t : List UInt8} (h : blkN b.toNat = true) (h2 : (b.toNat : Int) ≠ 35) : runM cmt lGo false (b :: t) = 1 + runM cmt lGo false t := by
  have hc : cmt false b.toNat = false := by unfold cmt; split <;> simp_all
  rw [lead_cons, hc]
  unfold lGo
  rw [hc, h]
  rfl
theorem lead_stop {b : UInt8} {t : List UInt8} (h : blkN b.toNat = false) (h2 : (b.toNat : Int) ≠ 35) : runM cmt lGo false (b :: t) = 0 := by
  have hc : cmt false b.toNat = false := by unfold cmt; split <;> simp_all
  rw [lead_cons]
  unfold lGo
  rw [hc, h]
  rfl
theorem lead_hash {b : UInt8} {t : List UInt8} (h : (b.toNat : Int) = 35) : runM cmt lGo false (b :: t) = runM cmt lGo true (b :: t) := by
  have h1 : cmt false b.toNat = true := by unfold cmt; rw [if_neg (by omega), if_pos h]
  have h2 : cmt true b.toNat = true := by unfold cmt; rw [if_neg (by omega), if_pos h]
  rw [lead_cons, lead_cons]
  unfold lGo
  rw [h1, h2]
theorem lead_in {b : UInt8} {t : List UInt8} (h : (b.toNat : Int) ≠ 10) : runM cmt lGo true (b :: t) = 1 + runM cmt lGo true t := by
  have h2 : cmt true b.toNat = true := by unfold cmt; rw [if_neg h]; split <;> rfl
  rw [lead_cons]
  unfold lGo
  rw [h2]
  rfl
theorem lead_lf {b : UInt8} {t : List UInt8} (h : (b.toNat : Int) = 10) : runM cmt lGo true (b :: t) = runM cmt lGo false (b :: t) := by
  have h1 : cmt false b.toNat = false := by unfold cmt; rw [if_pos h]
  have h2 : cmt true b.toNat = false := by unfold cmt; rw [if_pos h]
  rw [lead_cons, lead_cons]
  unfold lGo
  rw [h1, h2]
theorem lead_nil (c : Bool) : runM cmt lGo c [] = 0 := by rw [runM]
theorem tl_cons (s : ByteArray) (k : Nat) (h : k < s.size) : tl s k = s[k] :: tl s (k + 1) := by
  unfold tl
  rw [List.drop_eq_getElem_cons (by simpa using h)]
  rfl
set_option maxHeartbeats 4000000 in
set_option maxRecDepth 100000 in
theorem lead_any (s : ByteArray) (k : Nat) (w : World) (hs : s.size ≤ 100000) (hk : k ≤ s.size) : Calls Try.prog 39 #[.string s, .int .i64 k] w fun e w' => e = .returned (.int .i64 (atK s k)) ∧ Below w.heap.size w w' := by
  go_enter Try.func39, Try.ntmps39
  go_wp2_with fail
  go_loopg [1] (s.size + 1) (fun kx v wr => ∃ j : Nat, v = .int .i64 j ∧ j ≤ s.size ∧ s.size - j ≤ kx ∧ Hid (j + runM cmt lGo false (tl s j) = atK s k) ∧ Hid (Below w.heap.size w wr))
  case atStart => exact ⟨k, rfl, hk, by omega, rfl, Below.refl _ _⟩
  case round =>
    obtain ⟨j, rfl, hj, hkx, HA, HB⟩ := hrel
    by_cases hlt : j < s.size
    · have hc := tl_cons s j hlt
      by_cases hbl : blkN (s[j]'hlt).toNat = true
      · have h35 : ((s[j]'hlt).toNat : Int) ≠ 35 := by unfold blkN at hbl; simp only [decide_eq_true_eq] at hbl; omega
        have HN : Hid ((j + 1) + runM cmt lGo false (tl s (j + 1)) = atK s k) := by
          unfold Hid; rw [← HA.out, hc, lead_blank hbl h35]; omega
        have hb4 : ((s[j]'hlt).toNat : Int) = 32 ∨ ((s[j]'hlt).toNat : Int) = 9 ∨ ((s[j]'hlt).toNat : Int) = 10 ∨ ((s[j]'hlt).toNat : Int) = 13 := by
          unfold blkN at hbl; simpa using hbl
        clear hbl h35 hc
        rcases hb4 with hb | hb | hb | hb
        all_goals
          go_wp2_with fail
          go_roundg (s.size - (j + 1))
          case measure => omega
          case rel => exact ⟨j + 1, by go_num, by omega, by omega, HN.out, HB.out⟩
      · have hbl' : blkN (s[j]'hlt).toNat = false := by simpa using hbl
        have hnb : ¬ (((s[j]'hlt).toNat : Int) = 32) ∧ ¬ (((s[j]'hlt).toNat : Int) = 9) ∧ ¬ (((s[j]'hlt).toNat : Int) = 10) ∧ ¬ (((s[j]'hlt).toNat : Int) = 13) := by
          unfold blkN at hbl'; simp only [decide_eq_false_iff_not] at hbl'; omega
        obtain ⟨n1, n2, n3, n4⟩ := hnb
        have m1 : (((s[j]'hlt).toNat : Int) == 32) = false := by rw [beq_eq_false_iff_ne]; exact n1
        have m2 : (((s[j]'hlt).toNat : Int) == 9) = false := by rw [beq_eq_false_iff_ne]; exact n2
        have m3 : (((s[j]'hlt).toNat : Int) == 10) = false := by rw [beq_eq_false_iff_ne]; exact n3
        have m4 : (((s[j]'hlt).toNat : Int) == 13) = false := by rw [beq_eq_false_iff_ne]; exact n4
        by_cases h35 : ((s[j]'hlt).toNat : Int) = 35
        · have HI : Hid (j + runM cmt lGo true (tl s j) = atK s k) := by
            unfold Hid; rw [← HA.out, hc, lead_hash h35]
          clear hbl hbl' hc HA n1 n2 n3 n4
          go_wp2_with fail
          go_loopg [1] (s.size + 1) (fun kx2 v wr => ∃ i : Nat, v = .int .i64 i ∧ j ≤ i ∧ i ≤ s.size ∧ s.size - i ≤ kx2 ∧ (i = j ∨ j < i) ∧ Hid (i + runM cmt lGo true (tl s i) = atK s k) ∧ Hid (Below w.heap.size w wr))
          case atStart => exact ⟨j, rfl, Nat.le_refl _, by omega, by omega, .inl rfl, HI.out, HB.out⟩
          case round =>
            obtain ⟨i, rfl, hji, hi, hkx2, hor, HI2, HB2⟩ := hrel
            by_cases hlt2 : i < s.size
            · have hc2 := tl_cons s i hlt2
              by_cases h10 : ((s[i]'hlt2).toNat : Int) = 10
              · have hlti : j < i := by
                  rcases hor with h | h
                  · subst h; omega
                  · exact h
                have HN : Hid (i + runM cmt lGo false (tl s i) = atK s k) := by
                  unfold Hid; rw [← HI2.out, hc2, lead_lf h10]
                clear hc2 HI2 m1 m2 m3 m4 h35
                go_wp2_with fail
                go_roundg (s.size - i)
                case measure => omega
                case rel => exact ⟨i, rfl, by omega, by omega, HN.out, HB2.out⟩
              · have HN : Hid ((i + 1) + runM cmt lGo true (tl s (i + 1)) = atK s k) := by
                  unfold Hid; rw [← HI2.out, hc2, lead_in h10]; omega
                have m5 : (((s[i]'hlt2).toNat : Int) == 10) = false := by rw [beq_eq_false_iff_ne]; exact h10
                clear hc2 HI2 m1 m2 m3 m4 h35 h10
                go_wp2_with fail
                go_roundg (s.size - (i + 1))
                case measure => omega
                case rel => exact ⟨i + 1, by go_num, by omega, by omega, by omega, .inr (by omega), HN.out, HB2.out⟩
            · obtain rfl : i = s.size := by omega
              have HN : Hid (s.size + runM cmt lGo false (tl s s.size) = atK s k) := by
                unfold Hid; rw [← HI2.out, tl_end s _ (Nat.le_refl _), lead_nil, lead_nil]
              have hnl : ¬ (s.size : Int) < (s.size : Int) := by omega
              clear HI2 m1 m2 m3 m4 h35
              go_wp2_with fail
              go_roundg 0
              case measure => omega
              case rel => exact ⟨s.size, rfl, Nat.le_refl _, by omega, HN.out, HB2.out⟩
        · have HE : Hid (j = atK s k) := by unfold Hid; rw [← HA.out, hc, lead_stop hbl' h35]; rfl
          have m6 : (((s[j]'hlt).toNat : Int) == 35) = false := by rw [beq_eq_false_iff_ne]; exact h35
          clear hbl hbl' hc HA n1 n2 n3 n4 h35
          go_wp2
          go_ret
          exact ⟨by rw [← HE.out]; rfl, HB.out⟩
    · obtain rfl : j = s.size := by omega
      have HE : Hid (s.size = atK s k) := by unfold Hid; rw [← HA.out, tl_end s _ (Nat.le_refl _), lead_nil]; rfl
      have hnl : ¬ (s.size : Int) < (s.size : Int) := by omega
      clear HA
      go_wp2
      go_ret
      exact ⟨by rw [← HE.out]; rfl, HB.out⟩
end Go.Proofs.Ytnefnnoleeeedaa
namespace Go.Proofs.Ytnefnnoleeeedaa
open Go.RowKit
def wordAt (s : ByteArray) (k : Nat) : Nat × Nat × Nat := if keyL ((tl s k).take (wLen (tl s k))) = true then (2, k + wLen (tl s k), 0) else if wLen (tl s k) > 40 then (0, 0, 26) else (1, k + wLen (tl s k), 0)
theorem w_go (s : ByteArray) (j : Nat) (h : j < s.size) (hb : wdN ((s[j]'h).toNat : Int) = true) : wLen (tl s j) = 1 + wLen (tl s (j + 1)) := by
  rw [tl_cons s j h]
  unfold wLen
  rw [runM_go (go := wGo) (by exact hb)]
  rfl
theorem w_stop (s : ByteArray) (j : Nat) (h : j < s.size) (hb : wdN ((s[j]'h).toNat : Int) = false) : wLen (tl s j) = 0 := by
  rw [tl_cons s j h]
  unfold wLen
  rw [runM_stop (go := wGo) (by exact hb)]
theorem w_end (s : ByteArray) : wLen (tl s s.size) = 0 := by
  rw [tl_end s _ (Nat.le_refl _)]; unfold wLen; rw [runM]
theorem ext_tl (s : ByteArray) (k n : Nat) : (s.extract k (k + n)).data.toList = (tl s k).take n := by
  unfold tl
  rw [ByteArray.data_extract, Array.toList_extract, List.extract_eq_take_drop, Nat.add_sub_cancel_left]
set_option maxHeartbeats 4000000 in
set_option maxRecDepth 100000 in
theorem one_word (s : ByteArray) (k : Nat) (w : World) (hs : s.size ≤ 100000) (hk : k < s.size) (hl : letN ((s[k]'hk).toNat : Int) = true) : Calls Try.prog 40 #[.string s, .int .i64 k] w fun e w' => e = tri (wordAt s k) ∧ Below w.heap.size w w' := by
  have H0 : Hid ((k + 1) + wLen (tl s (k + 1)) = k + wLen (tl s k)) := by
    unfold Hid; rw [w_go s k hk (by unfold wdN; rw [hl]; rfl)]; omega
  obtain ⟨m, hm⟩ : ∃ m, m = wLen (tl s k) := ⟨_, rfl⟩
  obtain ⟨x, hx⟩ : ∃ x, x = wordAt s k := ⟨_, rfl⟩
  rw [← hx]
  unfold wordAt at hx
  rw [← hm] at H0 hx
  rw [← ext_tl] at hx
  have HX := Lib.hid hx
  clear hx hm
  go_enter Try.func40, Try.ntmps40
  go_wp2_with fail
  refine (rletter_any _ _).mono ?_
  rintro e w1 ⟨rfl, rfl⟩
  go_wp2_with fail
  go_loopg [7] (s.size + 1) (fun kx v wr => ∃ j : Nat, v = .int .i64 j ∧ k < j ∧ j ≤ s.size ∧ s.size - j ≤ kx ∧ Hid (j + wLen (tl s j) = k + m) ∧ Hid (w = wr))
  case atStart => exact ⟨k + 1, by go_num, by omega, by omega, by omega, H0.out, rfl⟩
  case round =>
    obtain ⟨j, rfl, hkj, hj, hkx, HA, HB⟩ := hrel
    obtain rfl := HB.out
    by_cases hlt : j < s.size
    · cases h1 : letN ((s[j]'hlt).toNat : Int)
      · cases h2 : digN ((s[j]'hlt).toNat : Int)
        · have HE : Hid (j = k + m) := by
            unfold Hid; rw [← HA.out, w_stop s j hlt (by unfold wdN; rw [h1, h2]; rfl)]; rfl
          go_wp2_with fail
          refine (rletter_any _ _).mono ?_
          rintro e w1 ⟨rfl, rfl⟩
          go_wp2_with fail
          refine (rdigit_any _ _).mono ?_
          rintro e w1 ⟨rfl, rfl⟩
          go_wp2_with fail
          refine (rkey_any _ _).mono ?_
          rintro e w2 ⟨rfl, HB2⟩
          have HB3 := Lib.hid HB2
          clear HB2
          cases hkey : keyL (s.extract k j).data.toList
          · by_cases h40 : m > 40
            · have hz : ((j - k : Nat) : Int) > 40 := by have := HE.out; omega
              have HR : Hid (x = (0, 0, 26)) := by
                unfold Hid; rw [HX.out, ← HE.out, hkey, if_neg (by decide), if_pos h40]
              go_wp2_with fail
              refine (rletter_any _ _).mono ?_
              rintro e w3 ⟨rfl, rfl⟩
              go_wp2_with fail
              go_ret3
              exact ⟨tri_eq (a := 0) (b := 0) (c := 26) HR.out, HB3.out⟩
            · have hz : ¬ ((j - k : Nat) : Int) > 40 := by have := HE.out; omega
              have HR : Hid (x = (1, j, 0)) := by
                unfold Hid; rw [HX.out, ← HE.out, hkey, if_neg (by decide), if_neg h40]
              go_wp2_with fail
              refine (rletter_any _ _).mono ?_
              rintro e w3 ⟨rfl, rfl⟩
              go_wp2_with fail
              go_ret3
              exact ⟨tri_eq (a := 1) (b := j) (c := 0) HR.out, HB3.out⟩
          · have HR : Hid (x = (2, j, 0)) := by
              unfold Hid; rw [HX.out, ← HE.out, hkey, if_pos rfl]
            go_wp2_with fail
            go_ret3
            exact ⟨tri_eq (a := 2) (b := j) (c := 0) HR.out, HB3.out⟩
        · have HN : Hid ((j + 1) + wLen (tl s (j + 1)) = k + m) := by
            unfold Hid; rw [← HA.out, w_go s j hlt (by unfold wdN; rw [h1, h2]; rfl)]; omega
          go_wp2_with fail
          refine (rletter_any _ _).mono ?_
          rintro e w1 ⟨rfl, rfl⟩
          go_wp2_with fail
          refine (rdigit_any _ _).mono ?_
          rintro e w1 ⟨rfl, rfl⟩
          go_wp2_with fail
          go_roundg (s.size - (j + 1))
          case measure => omega
          case rel => exact ⟨j + 1, by go_num, by omega, by omega, by omega, HN.out, rfl⟩
      · have HN : Hid ((j + 1) + wLen (tl s (j + 1)) = k + m) := by
          unfold Hid; rw [← HA.out, w_go s j hlt (by unfold wdN; rw [h1]; rfl)]; omega
        go_wp2_with fail
        refine (rletter_any _ _).mono ?_
        rintro e w1 ⟨rfl, rfl⟩
        go_wp2_with fail
        go_roundg (s.size - (j + 1))
        case measure => omega
        case rel => exact ⟨j + 1, by go_num, by omega, by omega, by omega, HN.out, rfl⟩
    · obtain rfl : j = s.size := by omega
      have HE : Hid (s.size = k + m) := by unfold Hid; rw [← HA.out, w_end]; rfl
      have hnl : ¬ (s.size : Int) < (s.size : Int) := by omega
      go_wp2_with fail
      refine (rkey_any _ _).mono ?_
      rintro e w2 ⟨rfl, HB2⟩
      have HB3 := Lib.hid HB2
      clear HB2
      cases hkey : keyL (s.extract k s.size).data.toList
      · by_cases h40 : m > 40
        · have hz : ((s.size - k : Nat) : Int) > 40 := by have := HE.out; omega
          have HR : Hid (x = (0, 0, 26)) := by
            unfold Hid; rw [HX.out, ← HE.out, hkey, if_neg (by decide), if_pos h40]
          go_wp2_with fail
          refine (rletter_any _ _).mono ?_
          rintro e w3 ⟨rfl, rfl⟩
          go_wp2_with fail
          go_ret3
          exact ⟨tri_eq (a := 0) (b := 0) (c := 26) HR.out, HB3.out⟩
        · have hz : ¬ ((s.size - k : Nat) : Int) > 40 := by have := HE.out; omega
          have HR : Hid (x = (1, s.size, 0)) := by
            unfold Hid; rw [HX.out, ← HE.out, hkey, if_neg (by decide), if_neg h40]
          go_wp2_with fail
          refine (rletter_any _ _).mono ?_
          rintro e w3 ⟨rfl, rfl⟩
          go_wp2_with fail
          go_ret3
          exact ⟨tri_eq (a := 1) (b := s.size) (c := 0) HR.out, HB3.out⟩
      · have HR : Hid (x = (2, s.size, 0)) := by
          unfold Hid; rw [HX.out, ← HE.out, hkey, if_pos rfl]
        go_wp2_with fail
        go_ret3
        exact ⟨tri_eq (a := 2) (b := s.size) (c := 0) HR.out, HB3.out⟩
end Go.Proofs.Ytnefnnoleeeedaa
namespace Go.Proofs.Ytnefnnoleeeedaa
open Go.RowKit
def numAt (s : ByteArray) (k : Nat) : Nat × Nat × Nat := if numOk ((tl s k).take (wLen (tl s k))) = true then (3, k + wLen (tl s k), 0) else (0, 0, 23)
theorem key_dig {c : UInt8} (hd : digN (c.toNat : Int) = true) (r : List UInt8) : keyL (c :: r) = false := by
  have key : ∀ x ∈ keys, ∀ b ∈ x.head?, digN (b.toNat : Int) = false := by decide
  unfold keyL
  cases h : keys.contains (c :: r) with
  | false => rfl
  | true =>
    have hm : (c :: r) ∈ keys := by simpa using h
    have := key _ hm c (by simp)
    rw [hd] at this; cases this
set_option maxHeartbeats 4000000 in
set_option maxRecDepth 100000 in
theorem one_num (s : ByteArray) (k : Nat) (w : World) (hs : s.size ≤ 100000) (hk : k < s.size) (hl : letN ((s[k]'hk).toNat : Int) = false) (hd : digN ((s[k]'hk).toNat : Int) = true) : Calls Try.prog 40 #[.string s, .int .i64 k] w fun e w' => e = tri (numAt s k) ∧ Below w.heap.size w w' := by
  have H0 : Hid ((k + 1) + wLen (tl s (k + 1)) = k + wLen (tl s k)) := by
    unfold Hid; rw [w_go s k hk (by unfold wdN; rw [hd, Bool.or_true])]; omega
  obtain ⟨m, hm⟩ : ∃ m, m = wLen (tl s k) := ⟨_, rfl⟩
  obtain ⟨x, hx⟩ : ∃ x, x = numAt s k := ⟨_, rfl⟩
  rw [← hx]
  unfold numAt at hx
  rw [← hm] at H0 hx
  have HX := Lib.hid hx
  have hm0 : 0 < m := by have := H0.out; omega
  clear hx hm
  go_enter Try.func40, Try.ntmps40
  go_wp2_with fail
  refine (rletter_any _ _).mono ?_
  rintro e w1 ⟨rfl, rfl⟩
  go_wp2_with fail
  refine (rdigit_any _ _).mono ?_
  rintro e w1 ⟨rfl, rfl⟩
  go_wp2_with fail
  go_loopg [7] (s.size + 1) (fun kx v wr => ∃ j : Nat, v = .int .i64 j ∧ k < j ∧ j ≤ s.size ∧ s.size - j ≤ kx ∧ Hid (j + wLen (tl s j) = k + m) ∧ Hid (w = wr))
  case atStart => exact ⟨k + 1, by go_num, by omega, by omega, by omega, H0.out, rfl⟩
  case round =>
    obtain ⟨j, rfl, hkj, hj, hkx, HA, HB⟩ := hrel
    obtain rfl := HB.out
    by_cases hlt : j < s.size
    · cases h1 : letN ((s[j]'hlt).toNat : Int)
      · cases h2 : digN ((s[j]'hlt).toNat : Int)
        · have HE : Hid (j = k + m) := by
            unfold Hid; rw [← HA.out, w_stop s j hlt (by unfold wdN; rw [h1, h2]; rfl)]; rfl
          go_wp2_with fail
          refine (rletter_any _ _).mono ?_
          rintro e w1 ⟨rfl, rfl⟩
          go_wp2_with fail
          refine (rdigit_any _ _).mono ?_
          rintro e w1 ⟨rfl, rfl⟩
          go_wp2_with fail
          obtain ⟨T, hT⟩ : ∃ T, T = s.extract k j := ⟨_, rfl⟩
          rw [← hT]
          have hTs : T.size ≤ 100000 := by rw [hT, ByteArray.size_extract]; omega
          have hTl : T.data.toList = (tl s k).take m := by rw [hT, show j = k + m from HE.out, ext_tl]
          have hcons : T.data.toList = s[k]'hk :: (T.data.toList).drop 1 := by
            rw [hTl, tl_cons s k hk]
            cases m with
            | zero => exact absurd HE.out (by unfold Hid at HE; omega)
            | succ m => rw [List.take_succ_cons, List.drop_one, List.tail_cons]
          have hkey : keyL T.data.toList = false := by
            rw [hcons]; exact key_dig hd _
          have hnum : numOk T.data.toList = refN 0 T.data.toList := by
            rw [hcons]; exact numOk_ref (by unfold digN at hd; have := of_decide_eq_true hd; omega)
          have HR : Hid (x = if refN 0 T.data.toList = true then (3, j, 0) else (0, 0, 23)) := by
            unfold Hid
            rw [HX.out, ← hnum, hTl, show j = k + m from HE.out]
          obtain ⟨B, hB⟩ : ∃ B, B = refN 0 T.data.toList := ⟨_, rfl⟩
          rw [← hB] at HR
          have HBB := Lib.hid hB
          clear hT hTl hcons hnum hB HX
          refine (rkey_any _ _).mono ?_
          rw [hkey]
          rintro e w2 ⟨rfl, HB2⟩
          have HB3 := Lib.hid HB2
          clear HB2
          go_wp2_with fail
          refine (rletter_any _ _).mono ?_
          rintro e w3 ⟨rfl, rfl⟩
          go_wp2_with fail
          go_loopg [9, 10] (T.size + 1) (fun kx v u wr => ∃ (n : Nat) (i : Nat), v = .int .u64 ((n : Nat) : Int) ∧ u = .int .i64 i ∧ i ≤ T.size ∧ T.size - i ≤ kx ∧ n ≤ 9223372036854775807 ∧ Hid (refN n (T.data.toList.drop i) = B) ∧ Hid (w2 = wr))
          case atStart => exact ⟨0, 0, rfl, rfl, by omega, by omega, by omega, by unfold Hid; rw [List.drop_zero]; exact HBB.out.symm, rfl⟩
          case round =>
            obtain ⟨n, i, rfl, rfl, hi, hkx2, hn, HF, HW⟩ := hrel
            obtain rfl := HW.out
            by_cases hlt2 : i < T.size
            · have hdr : T.data.toList.drop i = T[i]'hlt2 :: T.data.toList.drop (i + 1) := tl_cons T i hlt2
              cases h3 : digN ((T[i]'hlt2).toNat : Int)
              · have HB0 : Hid (B = false) := by
                  have := HF.out
                  rw [hdr, refN, if_neg (by unfold digN at h3; have := of_decide_eq_false h3; omega)] at this
                  exact this.symm
                have HXX : Hid (x = (0, 0, 23)) := by
                  unfold Hid; rw [HR.out, HB0.out]; rfl
                clear hdr
                go_wp2_with fail
                refine (rdigit_any _ _).mono ?_
                rintro e w1 ⟨rfl, rfl⟩
                go_wp2_with fail
                go_ret3
                exact ⟨tri_eq (a := 0) (b := 0) (c := 23) HXX.out, HB3.out⟩
              · obtain ⟨c, hc⟩ : ∃ c, c = (T[i]'hlt2).toNat := ⟨_, rfl⟩
                have hc1 : 48 ≤ c ∧ c ≤ 57 := by rw [hc]; unfold digN at h3; have := of_decide_eq_true h3; omega
                obtain ⟨d, hdd⟩ : ∃ d, d = c - 48 := ⟨_, rfl⟩
                have hF2 := HF.out
                rw [hdr, refN, ← hc, if_pos hc1, ← hdd] at hF2
                obtain ⟨q, hq⟩ : ∃ q, q = (9223372036854775807 - d) / 10 := ⟨_, rfl⟩
                have hd9 : d ≤ 9 := by omega
                have f1 : IntKind.u8.wrap ((c : Int) - 48) = (d : Int) := by rw [IntKind.wrap_u8]; omega
                have f2 : IntKind.u64.wrap (d : Int) = (d : Int) := by rw [IntKind.wrap_u64]; omega
                have f3 : IntKind.u64.wrap (9223372036854775807 - (d : Int)) = 9223372036854775807 - (d : Int) := by rw [IntKind.wrap_u64]; omega
                have f4 : (9223372036854775807 - (d : Int)) / 10 = (q : Int) := by omega
                have f5 : (9223372036854775807 - (d : Int)).tdiv 10 = (q : Int) := by rw [Int.tdiv_eq_ediv_of_nonneg (by omega)]; exact f4
                have f6 : IntKind.u64.wrap (q : Int) = (q : Int) := by rw [IntKind.wrap_u64]; omega
                have HQ := Lib.hid hq
                have HD9 := Lib.hid hdd
                have HF2 := Lib.hid hF2
                have HHC := Lib.hid hc
                clear hdr hF2 hq hdd HF
                go_wp2_with fail
                refine (rdigit_any _ _).mono ?_
                rintro e w1 ⟨rfl, rfl⟩
                rw [← hc]
                go_wp2_with fail
                · rename_i hg
                  have hc := HHC.out
                  have hd' := HD9.out
                  have HXX : Hid (x = (0, 0, 23)) := by
                    have h := HF2.out
                    rw [if_pos (by omega)] at h
                    unfold Hid; rw [HR.out, ← h]; rfl
                  go_ret3
                  exact ⟨tri_eq (a := 0) (b := 0) (c := 23) HXX.out, HB3.out⟩
                · rename_i hg
                  have hc := HHC.out
                  have hd' := HD9.out
                  have hle : n * 10 + d ≤ 9223372036854775807 := by omega
                  have HF3 : Hid (refN (n * 10 + d) (T.data.toList.drop (i + 1)) = B) := by
                    have h := HF2.out
                    rw [if_neg (by omega)] at h
                    exact h
                  go_roundg (T.size - (i + 1))
                  case measure => omega
                  case rel => exact ⟨n * 10 + d, i + 1, by rw [show ((n * 10 + d : Nat) : Int) = (n : Int) * 10 + (((T[i]'hlt2).toNat : Int) - 48) by omega], by go_num, by omega, by omega, hle, HF3.out, rfl⟩
            · obtain rfl : i = T.size := by omega
              have HB0 : Hid (B = true) := by
                have := HF.out
                rw [List.drop_of_length_le (by simp), refN] at this
                exact this.symm
              have HXX : Hid (x = (3, j, 0)) := by
                unfold Hid; rw [HR.out, HB0.out]; rfl
              have hnl2 : ¬ (T.size : Int) < (T.size : Int) := by omega
              go_wp2_with fail
              go_ret3
              exact ⟨tri_eq (a := 3) (b := j) (c := 0) HXX.out, HB3.out⟩
        · have HA2 : Hid ((j + 1) + wLen (tl s (j + 1)) = k + m) := by
            have := HA.out; rw [w_go s j hlt (by unfold wdN; rw [h2, Bool.or_true])] at this; unfold Hid; omega
          go_wp2_with fail
          refine (rletter_any _ _).mono ?_
          rintro e w1 ⟨rfl, rfl⟩
          go_wp2_with fail
          refine (rdigit_any _ _).mono ?_
          rintro e w1 ⟨rfl, rfl⟩
          go_wp2_with fail
          go_roundg (s.size - (j + 1))
          case measure => omega
          case rel => exact ⟨j + 1, by go_num, by omega, by omega, by omega, HA2.out, rfl⟩
      · have HA2 : Hid ((j + 1) + wLen (tl s (j + 1)) = k + m) := by
          have := HA.out; rw [w_go s j hlt (by unfold wdN; rw [h1]; rfl)] at this; unfold Hid; omega
        go_wp2_with fail
        refine (rletter_any _ _).mono ?_
        rintro e w1 ⟨rfl, rfl⟩
        go_wp2_with fail
        go_roundg (s.size - (j + 1))
        case measure => omega
        case rel => exact ⟨j + 1, by go_num, by omega, by omega, by omega, HA2.out, rfl⟩
    · obtain rfl : j = s.size := by omega
      have hnl : ¬ (s.size : Int) < (s.size : Int) := by omega
      have HE : Hid (s.size = k + m) := by
        unfold Hid; rw [← HA.out, w_end]; rfl
      go_wp2_with fail
      obtain ⟨T, hT⟩ : ∃ T, T = s.extract k s.size := ⟨_, rfl⟩
      rw [← hT]
      have hTs : T.size ≤ 100000 := by rw [hT, ByteArray.size_extract]; omega
      have hTl : T.data.toList = (tl s k).take m := by rw [hT, show s.size = k + m from HE.out, ext_tl]
      have hcons : T.data.toList = s[k]'hk :: (T.data.toList).drop 1 := by
        rw [hTl, tl_cons s k hk]
        cases m with
        | zero => exact absurd HE.out (by unfold Hid at HE; omega)
        | succ m => rw [List.take_succ_cons, List.drop_one, List.tail_cons]
      have hkey : keyL T.data.toList = false := by
        rw [hcons]; exact key_dig hd _
      have hnum : numOk T.data.toList = refN 0 T.data.toList := by
        rw [hcons]; exact numOk_ref (by unfold digN at hd; have := of_decide_eq_true hd; omega)
      have HR : Hid (x = if refN 0 T.data.toList = true then (3, s.size, 0) else (0, 0, 23)) := by
        unfold Hid
        rw [HX.out, ← hnum, hTl, show s.size = k + m from HE.out]
      obtain ⟨B, hB⟩ : ∃ B, B = refN 0 T.data.toList := ⟨_, rfl⟩
      rw [← hB] at HR
      have HBB := Lib.hid hB
      clear hT hTl hcons hnum hB HX
      refine (rkey_any _ _).mono ?_
      rw [hkey]
      rintro e w2 ⟨rfl, HB2⟩
      have HB3 := Lib.hid HB2
      clear HB2
      go_wp2_with fail
      refine (rletter_any _ _).mono ?_
      rintro e w3 ⟨rfl, rfl⟩
      go_wp2_with fail
      go_loopg [9, 10] (T.size + 1) (fun kx v u wr => ∃ (n : Nat) (i : Nat), v = .int .u64 ((n : Nat) : Int) ∧ u = .int .i64 i ∧ i ≤ T.size ∧ T.size - i ≤ kx ∧ n ≤ 9223372036854775807 ∧ Hid (refN n (T.data.toList.drop i) = B) ∧ Hid (w2 = wr))
      case atStart => exact ⟨0, 0, rfl, rfl, by omega, by omega, by omega, by unfold Hid; rw [List.drop_zero]; exact HBB.out.symm, rfl⟩
      case round =>
        obtain ⟨n, i, rfl, rfl, hi, hkx2, hn, HF, HW⟩ := hrel
        obtain rfl := HW.out
        by_cases hlt2 : i < T.size
        · have hdr : T.data.toList.drop i = T[i]'hlt2 :: T.data.toList.drop (i + 1) := tl_cons T i hlt2
          cases h3 : digN ((T[i]'hlt2).toNat : Int)
          · have HB0 : Hid (B = false) := by
              have := HF.out
              rw [hdr, refN, if_neg (by unfold digN at h3; have := of_decide_eq_false h3; omega)] at this
              exact this.symm
            have HXX : Hid (x = (0, 0, 23)) := by
              unfold Hid; rw [HR.out, HB0.out]; rfl
            clear hdr
            go_wp2_with fail
            refine (rdigit_any _ _).mono ?_
            rintro e w1 ⟨rfl, rfl⟩
            go_wp2_with fail
            go_ret3
            exact ⟨tri_eq (a := 0) (b := 0) (c := 23) HXX.out, HB3.out⟩
          · obtain ⟨c, hc⟩ : ∃ c, c = (T[i]'hlt2).toNat := ⟨_, rfl⟩
            have hc1 : 48 ≤ c ∧ c ≤ 57 := by rw [hc]; unfold digN at h3; have := of_decide_eq_true h3; omega
            obtain ⟨d, hdd⟩ : ∃ d, d = c - 48 := ⟨_, rfl⟩
            have hF2 := HF.out
            rw [hdr, refN, ← hc, if_pos hc1, ← hdd] at hF2
            obtain ⟨q, hq⟩ : ∃ q, q = (9223372036854775807 - d) / 10 := ⟨_, rfl⟩
            have hd9 : d ≤ 9 := by omega
            have f1 : IntKind.u8.wrap ((c : Int) - 48) = (d : Int) := by rw [IntKind.wrap_u8]; omega
            have f2 : IntKind.u64.wrap (d : Int) = (d : Int) := by rw [IntKind.wrap_u64]; omega
            have f3 : IntKind.u64.wrap (9223372036854775807 - (d : Int)) = 9223372036854775807 - (d : Int) := by rw [IntKind.wrap_u64]; omega
            have f4 : (9223372036854775807 - (d : Int)) / 10 = (q : Int) := by omega
            have f5 : (9223372036854775807 - (d : Int)).tdiv 10 = (q : Int) := by rw [Int.tdiv_eq_ediv_of_nonneg (by omega)]; exact f4
            have f6 : IntKind.u64.wrap (q : Int) = (q : Int) := by rw [IntKind.wrap_u64]; omega
            have HQ := Lib.hid hq
            have HD9 := Lib.hid hdd
            have HF2 := Lib.hid hF2
            have HHC := Lib.hid hc
            clear hdr hF2 hq hdd HF
            go_wp2_with fail
            refine (rdigit_any _ _).mono ?_
            rintro e w1 ⟨rfl, rfl⟩
            rw [← hc]
            go_wp2_with fail
            · rename_i hg
              have hc := HHC.out
              have hd' := HD9.out
              have HXX : Hid (x = (0, 0, 23)) := by
                have h := HF2.out
                rw [if_pos (by omega)] at h
                unfold Hid; rw [HR.out, ← h]; rfl
              go_ret3
              exact ⟨tri_eq (a := 0) (b := 0) (c := 23) HXX.out, HB3.out⟩
            · rename_i hg
              have hc := HHC.out
              have hd' := HD9.out
              have hle : n * 10 + d ≤ 9223372036854775807 := by omega
              have HF3 : Hid (refN (n * 10 + d) (T.data.toList.drop (i + 1)) = B) := by
                have h := HF2.out
                rw [if_neg (by omega)] at h
                exact h
              go_roundg (T.size - (i + 1))
              case measure => omega
              case rel => exact ⟨n * 10 + d, i + 1, by rw [show ((n * 10 + d : Nat) : Int) = (n : Int) * 10 + (((T[i]'hlt2).toNat : Int) - 48) by omega], by go_num, by omega, by omega, hle, HF3.out, rfl⟩
        · obtain rfl : i = T.size := by omega
          have HB0 : Hid (B = true) := by
            have := HF.out
            rw [List.drop_of_length_le (by simp), refN] at this
            exact this.symm
          have HXX : Hid (x = (3, s.size, 0)) := by
            unfold Hid; rw [HR.out, HB0.out]; rfl
          have hnl2 : ¬ (T.size : Int) < (T.size : Int) := by omega
          go_wp2_with fail
          go_ret3
          exact ⟨tri_eq (a := 3) (b := s.size) (c := 0) HXX.out, HB3.out⟩
end Go.Proofs.Ytnefnnoleeeedaa
namespace Go.Proofs.Ytnefnnoleeeedaa
open Go.RowKit
def quotAt (s : ByteArray) (k : Nat) : Nat × Nat × Nat := if (unq ((tl s k).take (qLong (tl s k)))).isSome = true then (4, k + qLong (tl s k), 0) else (0, 0, 22)
theorem b_nat {b : UInt8} {n : Nat} (h : (b.toNat : Int) = n) (hn : n < 256) : b = n.toUInt8 := by
  apply UInt8.toNat_inj.1
  have : b.toNat = n := by omega
  rw [this]
  simp [Nat.toUInt8, Nat.mod_eq_of_lt hn]
theorem q_shut (s : ByteArray) (j : Nat) (h : j < s.size) (hb : ((s[j]'h).toNat : Int) = 34) : qLen (tl s j) = 0 := by
  rw [tl_cons s j h]; unfold qLen
  rw [runM_stop (go := qGo) (by unfold qGo; rw [hb]; rfl)]
theorem q_go (s : ByteArray) (j : Nat) (h : j < s.size) (hb : ((s[j]'h).toNat : Int) ≠ 34) (h2 : ((s[j]'h).toNat : Int) ≠ 92) : qLen (tl s j) = 1 + qLen (tl s (j + 1)) := by
  rw [tl_cons s j h]; unfold qLen
  rw [runM_go (go := qGo) (by unfold qGo; rw [decide_eq_true hb]; rfl)]
  have : sls false ((s[j]'h).toNat : Int) = false := by unfold sls; rw [decide_eq_false h2]; rfl
  rw [this]
theorem q_sl (s : ByteArray) (j : Nat) (h : j < s.size) (h2 : ((s[j]'h).toNat : Int) = 92) : min (j + 2) s.size + qLen (tl s (j + 2)) = j + qLen (tl s j) := by
  have e1 : qLen (tl s j) = 1 + runM sls qGo true (tl s (j + 1)) := by
    rw [tl_cons s j h]; unfold qLen
    rw [runM_go (go := qGo) (by unfold qGo; rw [h2]; rfl)]
    have : sls false ((s[j]'h).toNat : Int) = true := by unfold sls; rw [h2]; rfl
    rw [this]
  by_cases hj : j + 1 < s.size
  · have e2 : runM sls qGo true (tl s (j + 1)) = 1 + qLen (tl s (j + 2)) := by
      rw [tl_cons s (j + 1) hj]; unfold qLen
      rw [runM_go (go := qGo) (by unfold qGo; rw [Bool.or_true])]
      have : sls true ((s[j + 1]'hj).toNat : Int) = false := by unfold sls; rw [Bool.not_true, Bool.and_false]
      rw [this]
    omega
  · have e2 : tl s (j + 1) = [] := tl_end s _ (by omega)
    have e3 : tl s (j + 2) = [] := tl_end s _ (by omega)
    rw [e1, e2, e3]
    unfold qLen
    rw [runM, runM]
    omega
theorem q_lf (s : ByteArray) (j : Nat) (h : j < s.size) (hb : ((s[j]'h).toNat : Int) = 10) : 1 ≤ qLen (tl s j) := by
  rw [q_go s j h (by omega) (by omega)]; omega
theorem qLong_tl (s : ByteArray) (k : Nat) (hk : k < s.size) : qLong (tl s k) = min (qLen (tl s (k + 1)) + 2) (s.size - k) := by
  unfold qLong
  rw [tl_len]
  have : (tl s k).drop 1 = tl s (k + 1) := by rw [tl_cons s k hk, List.drop_one, List.tail_cons]
  rw [this]
  congr 1
  omega
theorem quot_lf (s : ByteArray) (k j : Nat) (hk : k < s.size) (hj : j < s.size) (hkj : k < j) (hb : ((s[j]'hj).toNat : Int) = 10) (hq : j + qLen (tl s j) = k + 1 + qLen (tl s (k + 1))) : quotAt s k = (0, 0, 22) := by
  have h1 := q_lf s j hj hb
  unfold quotAt
  have : unq ((tl s k).take (qLong (tl s k))) = none := by
    refine unq_lf (i := j - k) ?_
    rw [List.getElem?_take, if_pos (by rw [qLong_tl s k hk]; omega)]
    unfold tl
    rw [List.getElem?_drop, show k + (j - k) = j by omega]
    have hl : j < s.data.toList.length := by simpa using hj
    rw [List.getElem?_eq_getElem hl]
    congr 1
    have := b_nat (b := s[j]'hj) (n := 10) hb (by decide)
    rw [show s.data.toList[j] = s[j]'hj from rfl, this]
    rfl
  rw [this, if_neg (by simp)]
theorem quot_open (s : ByteArray) (k : Nat) (hk : k < s.size) (h34 : ((s[k]'hk).toNat : Int) = 34) (hq : s.size = k + 1 + qLen (tl s (k + 1))) : quotAt s k = (0, 0, 22) := by
  unfold quotAt
  have e : (tl s k).take (qLong (tl s k)) = 34 :: tl s (k + 1) := by
    rw [qLong_tl s k hk, List.take_of_length_le (by rw [tl_len]; omega), tl_cons s k hk]
    congr 1
    exact b_nat (n := 34) h34 (by decide)
  rw [e, unq_open (by rw [tl_len]; show qLen _ = _; omega), if_neg (by simp)]
theorem quot_shut (s : ByteArray) (k j : Nat) (hk : k < s.size) (hj : j < s.size) (_hkj : k < j) (hb : ((s[j]'hj).toNat : Int) = 34) (hq : j + qLen (tl s j) = k + 1 + qLen (tl s (k + 1))) : quotAt s k = if (unq (s.extract k (j + 1)).data.toList).isSome = true then (4, j + 1, 0) else (0, 0, 22) := by
  have h1 := q_shut s j hj hb
  unfold quotAt
  have e : qLong (tl s k) = j + 1 - k := by rw [qLong_tl s k hk]; omega
  have e2 : (s.extract k (j + 1)).data.toList = (tl s k).take (j + 1 - k) := by
    have := ext_tl s k (j + 1 - k)
    rw [show k + (j + 1 - k) = j + 1 by omega] at this
    exact this
  rw [e, e2, show k + (j + 1 - k) = j + 1 by omega]
set_option maxHeartbeats 4000000 in
set_option maxRecDepth 100000 in
theorem one_quote (s : ByteArray) (k : Nat) (w : World) (hs : s.size ≤ 99998) (hk : k < s.size) (_hl : letN ((s[k]'hk).toNat : Int) = false) (_hd : digN ((s[k]'hk).toNat : Int) = false) (hq : ((s[k]'hk).toNat : Int) = 34) : Calls Try.prog 40 #[.string s, .int .i64 k] w fun e w' => e = tri (quotAt s k) ∧ Below w.heap.size w w' := by
  have B0 := Lib.hid (Below.refl w.heap.size w)
  have HQ := Lib.hid hq
  obtain ⟨x, hx⟩ : ∃ x, x = quotAt s k := ⟨_, rfl⟩
  rw [← hx]
  have HX := Lib.hid hx
  clear hx
  go_enter Try.func40, Try.ntmps40
  go_wp2_with fail
  refine (rletter_any _ _).mono ?_
  rintro e w1 ⟨rfl, rfl⟩
  go_wp2_with fail
  refine (rdigit_any _ _).mono ?_
  rintro e w1 ⟨rfl, rfl⟩
  go_wp2_with fail
  go_loopg [7] (s.size + 2) (fun kx v wr => ∃ j : Nat, v = .int .i64 j ∧ k < j ∧ j ≤ s.size + 1 ∧ s.size + 1 - j ≤ kx ∧ Hid (min j s.size + qLen (tl s j) = k + 1 + qLen (tl s (k + 1))) ∧ Hid (w = wr))
  case atStart => exact ⟨k + 1, by go_num, by omega, by omega, by omega, by unfold Hid; omega, rfl⟩
  case round =>
    obtain ⟨j, rfl, hkj, hj, hkx, HI, HB⟩ := hrel
    obtain rfl := HB.out
    by_cases hlt : j < s.size
    · have HI2 : Hid (j + qLen (tl s j) = k + 1 + qLen (tl s (k + 1))) := by have := HI.out; unfold Hid; omega
      by_cases h34 : ((s[j]'hlt).toNat : Int) = 34
      · have m10 : (((s[j]'hlt).toNat : Int) == 10) = false := by rw [beq_eq_false_iff_ne]; omega
        have hge : ¬ (j : Int) ≥ (s.size : Int) := by omega
        have HS := Lib.hid (quot_shut s k j hk hlt hkj h34 HI2.out)
        go_wp2_with fail
        obtain ⟨T, hT⟩ : ∃ T, T = s.extract k (j + 1) := ⟨_, rfl⟩
        rw [← hT]
        have HS2 : Hid (x = if (unq T.data.toList).isSome = true then (4, j + 1, 0) else (0, 0, 22)) := by
          unfold Hid; rw [HX.out, hT]; exact HS.out
        have hTs : T.size ≤ 100000 := by rw [hT, ByteArray.size_extract]; omega
        clear hT
        refine (runquote_any _ _ hTs).mono ?_
        rintro e w2 ⟨rfl, rfl⟩
        cases hu : unq T.data.toList with
        | some o =>
          have hue : uq T.data.toList = .returned (.tuple #[.string ⟨o.toArray⟩, .int .i64 0]) := by unfold uq; rw [hu]
          have HXX : Hid (x = (4, j + 1, 0)) := by unfold Hid; rw [HS2.out, hu]; rfl
          rw [hue]
          clear hue hu
          go_wp2_with fail
          go_ret3
          exact ⟨tri_eq (a := 4) (b := j + 1) (c := 0) HXX.out, B0.out⟩
        | none =>
          have hue : uq T.data.toList = .returned (.tuple #[.string ⟨#[]⟩, .int .i64 22]) := by unfold uq; rw [hu]
          have HXX : Hid (x = (0, 0, 22)) := by unfold Hid; rw [HS2.out, hu]; rfl
          rw [hue]
          clear hue hu
          go_wp2_with fail
          go_ret3
          exact ⟨tri_eq (a := 0) (b := 0) (c := 22) HXX.out, B0.out⟩
      · have m34 : (((s[j]'hlt).toNat : Int) == 34) = false := by rw [beq_eq_false_iff_ne]; exact h34
        by_cases h10 : ((s[j]'hlt).toNat : Int) = 10
        · have hge : ¬ (j : Int) ≥ (s.size : Int) := by omega
          have HXX : Hid (x = (0, 0, 22)) := by unfold Hid; rw [HX.out]; exact quot_lf s k j hk hlt hkj h10 HI2.out
          clear h34
          go_wp2_with fail
          go_ret3
          exact ⟨tri_eq (a := 0) (b := 0) (c := 22) HXX.out, B0.out⟩
        · have m10 : (((s[j]'hlt).toNat : Int) == 10) = false := by rw [beq_eq_false_iff_ne]; exact h10
          by_cases h92 : ((s[j]'hlt).toNat : Int) = 92
          · have HI3 : Hid (min (j + 2) s.size + qLen (tl s (j + 2)) = k + 1 + qLen (tl s (k + 1))) := by
              unfold Hid; rw [q_sl s j hlt h92]; exact HI2.out
            clear h34 h10
            go_wp2_with fail
            go_roundg (s.size + 1 - (j + 2))
            case measure => omega
            case rel => exact ⟨j + 2, by go_num, by omega, by omega, by omega, HI3.out, rfl⟩
          · have m92 : (((s[j]'hlt).toNat : Int) == 92) = false := by rw [beq_eq_false_iff_ne]; exact h92
            have p34 : (((s[j]'hlt).toNat : Int) != 34) = true := by rw [bne_iff_ne]; exact h34
            have p10 : (((s[j]'hlt).toNat : Int) != 10) = true := by rw [bne_iff_ne]; exact h10
            have HI3 : Hid (min (j + 1) s.size + qLen (tl s (j + 1)) = k + 1 + qLen (tl s (k + 1))) := by
              have h1 := q_go s j hlt h34 h92
              have h2 := HI2.out
              unfold Hid; omega
            clear h34 h10 h92
            go_wp2_with fail
            go_roundg (s.size + 1 - (j + 1))
            case measure => omega
            case rel => exact ⟨j + 1, by go_num, by omega, by omega, by omega, HI3.out, rfl⟩
    · have hnl : ¬ (j : Int) < (s.size : Int) := by omega
      have hge : (j : Int) ≥ (s.size : Int) := by omega
      have HXX : Hid (x = (0, 0, 22)) := by
        unfold Hid; rw [HX.out]
        refine quot_open s k hk HQ.out ?_
        have := HI.out
        rw [tl_end s j (by omega)] at this
        have h0 : qLen [] = 0 := by unfold qLen; rw [runM]
        omega
      go_wp2_with fail
      go_ret3
      exact ⟨tri_eq (a := 0) (b := 0) (c := 22) HXX.out, B0.out⟩
end Go.Proofs.Ytnefnnoleeeedaa
namespace Go.Proofs.Ytnefnnoleeeedaa
open Go.RowKit
def signAt (s : ByteArray) (k : Nat) : Nat × Nat × Nat := if Lib.hasPrefix (tl s k) [61, 61] = true then (5, k + 2, 0) else if 0 ≤ Lib.indexByte signs ((tl s k).getD 0 0) then (5, k + 1, 0) else (0, 0, 21)
theorem sign_ix (b : UInt8) : decide (0 ≤ Lib.indexByte signs b) = signs.contains b := by
  have key : ∀ n, n < 256 → decide (0 ≤ Lib.indexByte signs n.toUInt8) = signs.contains n.toUInt8 := by decide +kernel
  have := key b.toNat (UInt8.toNat_lt b)
  rw [show b.toNat.toUInt8 = b by simp [Nat.toUInt8]] at this
  exact this
theorem sign_two (s : ByteArray) (k : Nat) (hk : k < s.size) (hlt : k + 1 < s.size) (ha : ((s[k]'hk).toNat : Int) = 61) (hb : ((s[k + 1]'hlt).toNat : Int) = 61) : signAt s k = (5, k + 2, 0) := by
  unfold signAt
  have e : tl s k = 61 :: 61 :: tl s (k + 2) := by
    rw [tl_cons s k hk, tl_cons s (k + 1) hlt, b_nat (n := 61) ha (by decide), b_nat (n := 61) hb (by decide)]
    rfl
  rw [e, if_pos (by simp [Lib.hasPrefix])]
theorem sign_one (s : ByteArray) (k : Nat) (hk : k < s.size) (h4 : (¬ ((k : Int) + 1 < (s.size : Int))) ∨ (((k : Int) + 1 < (s.size : Int)) ∧ (((s[k]'hk).toNat : Int) == 61) = false) ∨ (∃ h : k + 1 < s.size, ((s[k]'hk).toNat : Int) = 61 ∧ (((s[k + 1]'h).toNat : Int) == 61) = false)) : signAt s k = if signs.contains (s[k]'hk) = true then (5, k + 1, 0) else (0, 0, 21) := by
  unfold signAt
  have e0 : (tl s k).getD 0 0 = s[k]'hk := by rw [tl_cons s k hk]; rfl
  have e1 : Lib.hasPrefix (tl s k) [61, 61] = false := by
    rw [tl_cons s k hk]
    rcases h4 with h4 | ⟨_, h5⟩ | ⟨h4, h5, h6⟩
    · rw [tl_end s (k + 1) (by omega)]
      simp [Lib.hasPrefix, List.isPrefixOf]
    · have : ((61 : UInt8) == s[k]'hk) = false := by
        rw [beq_eq_false_iff_ne]
        exact fun h => by rw [← h] at h5; revert h5; decide
      simp [Lib.hasPrefix, List.isPrefixOf, this]
    · have : ((61 : UInt8) == s[k + 1]'h4) = false := by
        rw [beq_eq_false_iff_ne]
        exact fun h => by rw [← h] at h6; revert h6; decide
      rw [tl_cons s (k + 1) h4]
      simp [Lib.hasPrefix, List.isPrefixOf, this]
  rw [e0, e1, if_neg (by decide), ← sign_ix]
  by_cases h : 0 ≤ Lib.indexByte signs (s[k]'hk)
  · rw [if_pos h, if_pos (decide_eq_true h)]
  · rw [if_neg h, if_neg (by rw [decide_eq_false h]; decide)]
set_option maxHeartbeats 4000000 in
set_option maxRecDepth 100000 in
theorem one_sign (s : ByteArray) (k : Nat) (w : World) (hs : s.size ≤ 99998) (hk : k < s.size) (hl : letN ((s[k]'hk).toNat : Int) = false) (hd : digN ((s[k]'hk).toNat : Int) = false) (hq : (((s[k]'hk).toNat : Int) == 34) = false) : Calls Try.prog 40 #[.string s, .int .i64 k] w fun e w' => e = tri (signAt s k) ∧ Below w.heap.size w w' := by
  have B0 := Lib.hid (Below.refl w.heap.size w)
  obtain ⟨x, hx⟩ : ∃ x, x = signAt s k := ⟨_, rfl⟩
  rw [← hx]
  by_cases h3 : ∃ h : k + 1 < s.size, ((s[k]'hk).toNat : Int) = 61 ∧ ((s[k + 1]'h).toNat : Int) = 61
  · obtain ⟨hlt, ha, hb⟩ := h3
    have HX : Hid (x = (5, k + 2, 0)) := by unfold Hid; rw [hx]; exact sign_two s k hk hlt ha hb
    clear hx
    go_enter Try.func40, Try.ntmps40
    go_wp2_with fail
    refine (rletter_any _ _).mono ?_
    rintro e w1 ⟨rfl, rfl⟩
    go_wp2_with fail
    refine (rdigit_any _ _).mono ?_
    rintro e w1 ⟨rfl, rfl⟩
    go_wp2_with fail
    go_ret3
    exact ⟨tri_eq (a := 5) (b := k + 2) (c := 0) HX.out, B0.out⟩
  · have h4 : (¬ ((k : Int) + 1 < (s.size : Int))) ∨ (((k : Int) + 1 < (s.size : Int)) ∧ (((s[k]'hk).toNat : Int) == 61) = false) ∨ (∃ h : k + 1 < s.size, ((s[k]'hk).toNat : Int) = 61 ∧ (((s[k + 1]'h).toNat : Int) == 61) = false) := by
      by_cases hlt : k + 1 < s.size
      · by_cases ha : ((s[k]'hk).toNat : Int) = 61
        · refine .inr (.inr ⟨hlt, ha, ?_⟩)
          rw [beq_eq_false_iff_ne]
          intro hb
          exact h3 ⟨hlt, ha, hb⟩
        · refine .inr (.inl ⟨by omega, ?_⟩)
          rw [beq_eq_false_iff_ne]; exact ha
      · exact .inl (by omega)
    clear h3
    have HX : Hid (x = if signs.contains (s[k]'hk) = true then (5, k + 1, 0) else (0, 0, 21)) := by unfold Hid; rw [hx]; exact sign_one s k hk h4
    clear hx
    obtain ⟨M, hM⟩ : ∃ M, M = signs.contains (s[k]'hk) := ⟨_, rfl⟩
    rw [← hM] at HX
    have HM := Lib.hid hM
    clear hM
    rcases h4 with h4 | ⟨h4, h5⟩ | ⟨h4, h5, h6⟩
    all_goals
      go_enter Try.func40, Try.ntmps40
      go_wp2_with fail
      refine (rletter_any _ _).mono ?_
      rintro e w1 ⟨rfl, rfl⟩
      go_wp2_with fail
      refine (rdigit_any _ _).mono ?_
      rintro e w1 ⟨rfl, rfl⟩
      go_wp2_with fail
      obtain ⟨A, hA⟩ : ∃ A : ByteArray, A = { data := #[40, 41, 123, 125, 44, 59, 58, 46, 61, 43, 45, 42, 60] } := ⟨_, rfl⟩
      rw [← hA]
      have hAs : A.size ≤ 100000 := by rw [hA]; decide
      have HM2 : Hid (A.data.toList.contains (s[k]'hk) = M) := by unfold Hid; rw [HM.out, hA]; rfl
      clear hA
      go_loopg [15] (A.size + 1) (fun kx u wr => ∃ (i : Nat), u = .int .i64 i ∧ i ≤ A.size ∧ A.size - i ≤ kx ∧ Hid ((A.data.toList.drop i).contains (s[k]'hk) = M) ∧ Hid (Below w.heap.size w wr))
      case atStart => exact ⟨0, rfl, by omega, by omega, HM2.out, B0.out⟩
      case round =>
        obtain ⟨i, rfl, hi, hkx2, HF, HW⟩ := hrel
        by_cases hlt2 : i < A.size
        · have hdr : A.data.toList.drop i = A[i]'hlt2 :: A.data.toList.drop (i + 1) := tl_cons A i hlt2
          cases hx : (((A[i]'hlt2).toNat : Int) == ((s[k]'hk).toNat : Int))
          · have HF2 : Hid ((A.data.toList.drop (i + 1)).contains (s[k]'hk) = M) := by
              have h := HF.out
              have hne : ¬ s[k]'hk = A[i]'hlt2 := fun h => by rw [h] at hx; simp at hx
              rw [hdr, List.contains_cons, show (s[k]'hk == A[i]'hlt2) = false by rw [beq_eq_false_iff_ne]; exact hne, Bool.false_or] at h
              exact h
            clear hdr
            go_wp2_with fail
            go_quiet (fail)
            go_wp2_with fail
            go_roundg (A.size - (i + 1))
            case measure => omega
            case rel => exact ⟨i + 1, by go_num, by omega, by omega, HF2.out, below_drewN HW.out _⟩
          · have HXX : Hid (x = (5, k + 1, 0)) := by
              have h := HF.out
              have heq : s[k]'hk = A[i]'hlt2 := UInt8.toNat_inj.1 (by have := eq_of_beq hx; omega)
              rw [hdr, List.contains_cons, show (s[k]'hk == A[i]'hlt2) = true by rw [beq_iff_eq]; exact heq, Bool.true_or] at h
              unfold Hid; rw [HX.out, ← h]; rfl
            clear hdr
            go_wp2_with fail
            go_quiet (fail)
            go_wp2_with fail
            go_ret3
            exact ⟨tri_eq (a := 5) (b := k + 1) (c := 0) HXX.out, below_drewN HW.out _⟩
        · obtain rfl : i = A.size := by omega
          have hnl2 : ¬ (A.size : Int) < (A.size : Int) := by omega
          have HXX : Hid (x = (0, 0, 21)) := by
            have h := HF.out
            rw [List.drop_of_length_le (by simp)] at h
            unfold Hid; rw [HX.out, ← h]; rfl
          go_wp2_with fail
          go_ret3
          exact ⟨tri_eq (a := 0) (b := 0) (c := 21) HXX.out, HW.out⟩
def errK0 (s : ByteArray) (k : Nat) : Nat := (firstL (tl s k)).2.2
def oneX (s : ByteArray) (k : Nat) : Nat × Nat × Nat := if errK0 s k = 0 then ((firstL (tl s k)).1, k + (firstL (tl s k)).2.1, 0) else (0, 0, errK0 s k)
theorem one_any (s : ByteArray) (k : Nat) (w : World) (hs : s.size ≤ 99998) (hk : k < s.size) : Calls Try.prog 40 #[.string s, .int .i64 k] w fun e w' => e = tri (oneX s k) ∧ Below w.heap.size w w' := by
  have h0 : (tl s k).getD 0 0 = s[k]'hk := by rw [tl_cons s k hk]; rfl
  have hne : tl s k ≠ [] := tl_ne s k hk
  cases h1 : letN ((s[k]'hk).toNat : Int)
  · cases h2 : digN ((s[k]'hk).toNat : Int)
    · by_cases h3 : ((s[k]'hk).toNat : Int) = 34
      · have e : oneX s k = quotAt s k := by
          have hf : firstL (tl s k) = quotL (tl s k) := by
            unfold firstL
            rw [if_neg hne, h0, h1, if_neg (by decide), h2, if_neg (by decide), if_pos (by omega)]
          unfold oneX errK0 quotAt
          rw [hf]
          unfold quotL
          split <;> rfl
        rw [e]
        exact one_quote s k w hs hk h1 h2 h3
      · have e : oneX s k = signAt s k := by
          have hf : firstL (tl s k) = signL (tl s k) := by
            unfold firstL
            rw [if_neg hne, h0, h1, if_neg (by decide), h2, if_neg (by decide), if_neg (by omega)]
          unfold oneX errK0 signAt
          rw [hf]
          unfold signL
          split
          · rfl
          · split <;> rfl
        rw [e]
        exact one_sign s k w hs hk h1 h2 (by rw [beq_eq_false_iff_ne]; exact h3)
    · have e : oneX s k = numAt s k := by
        have hf : firstL (tl s k) = numL (tl s k) := by
          unfold firstL
          rw [if_neg hne, h0, h1, if_neg (by decide), h2, if_pos rfl]
        unfold oneX errK0 numAt
        rw [hf]
        unfold numL
        split <;> rfl
      rw [e]
      exact one_num s k w (by omega) hk h1 h2
  · have e : oneX s k = wordAt s k := by
      have hf : firstL (tl s k) = wordL (tl s k) := by
        unfold firstL
        rw [if_neg hne, h0, h1, if_pos rfl]
      unfold oneX errK0 wordAt
      rw [hf]
      unfold wordL
      split
      · rfl
      · split <;> rfl
    rw [e]
    exact one_word s k w (by omega) hk h1
end Go.Proofs.Ytnefnnoleeeedaa
namespace Go.Proofs.Ytnefnnoleeeedaa
open Go.RowKit
def RL (r : LexR) (w : World) (e : Ending) (w' : World) : Prop :=
  Below w.heap.size w w' ∧ match r with
    | .good l => ∃ v, e = .returned (.tuple #[v, .int .i64 0, .int .i64 0]) ∧ w'.ownsRow w.heap.size 53 4 v l.length (cellsL l) ∧ l.length ≤ 4000
    | .bad er a => e = .returned (.tuple #[.slice none 0 0, .int .i64 er, .int .i64 a])
theorem RL.bad {r : LexR} {w w' : World} {er a : Int} (h : r = .bad er a) (hb : Below w.heap.size w w') : RL r w (.returned (.tuple #[.slice none 0 0, .int .i64 er, .int .i64 a])) w' := by
  rw [h]; exact ⟨hb, rfl⟩
theorem RL.good {r : LexR} {w w' : World} {l : List Tok} {v : Value} (h : r = .good l) (hb : Below w.heap.size w w') (ho : w'.ownsRow w.heap.size 53 4 v l.length (cellsL l)) (hl : l.length ≤ 4000) : RL r w (.returned (.tuple #[v, .int .i64 0, .int .i64 0])) w' := by
  rw [h]; exact ⟨hb, v, rfl, ho, hl⟩
theorem oneX_out (s : ByteArray) (k a : Nat) (ha : a = atK s k) (hlt : a < s.size) : (errK s k ≠ 0 ∧ oneX s a = (0, 0, errK s k)) ∨ (errK s k = 0 ∧ ∃ kd en, oneX s a = (kd, en, 0) ∧ kd = (tokK s k).kind ∧ kd ≠ 0 ∧ en = endK s k ∧ a < en ∧ en ≤ s.size ∧ tokK s k = ⟨kd, a, s.extract k a, s.extract a en⟩) := by
  have e : errK0 s a = errK s k := by unfold errK0 errK; rw [ha]
  by_cases he : errK s k = 0
  · have hk0 : (tokK s k).kind ≠ 0 := by
      intro h
      have h1 := (first_kind (tl s (atK s k)) he).1.1 h
      rw [← ha] at h1
      exact tl_ne s a hlt h1
    have hp := tok_pos s k he hk0
    have hle : endK s k ≤ s.size := by
      have h1 := first_le (tl s (atK s k))
      rw [tl_len] at h1
      unfold endK
      omega
    refine .inr ⟨he, (tokK s k).kind, endK s k, ?_, rfl, hk0, rfl, by rw [ha]; exact hp, hle, ?_⟩
    · unfold oneX
      rw [e, if_pos he, ha]
      rfl
    · rw [ha]; rfl
  · refine .inl ⟨he, ?_⟩
    unfold oneX
    rw [e, if_neg he]
theorem oneX_end (s : ByteArray) (k : Nat) (ha : atK s k = s.size) : errK s k = 0 ∧ tokK s k = ⟨0, s.size, s.extract k s.size, s.extract s.size s.size⟩ := by
  have e : tl s (atK s k) = [] := tl_end s _ (by omega)
  have f : firstL (tl s (atK s k)) = (0, 0, 0) := by rw [e]; rfl
  refine ⟨by unfold errK; rw [f], ?_⟩
  unfold tokK
  rw [f, ha]
  rfl
theorem below_put {w w' : World} {g : Nat} (h : Below w.heap.size w w') (hg : w.heap.size ≤ g) (i : Nat) (u : Value) : Below w.heap.size w (w'.setCell ⟨g, i, none⟩ u) := h.setCell hg u
set_option maxHeartbeats 4000000 in
set_option maxRecDepth 100000 in
theorem rlex_any (s : ByteArray) (hs : s.size ≤ 16384) (hg : badAt s.data.toList = none) (w : World) :
    Calls Try.prog 17 #[.string s] w (RL (lexF s (s.size + 1) 0 0) w) := by
  obtain ⟨r, hr⟩ : ∃ r, r = lexF s (s.size + 1) 0 0 := ⟨_, rfl⟩
  rw [← hr]
  have HR0 : Hid (r = (lexF s (s.size + 1) 0 0).pre []) := by unfold Hid; rw [hr]; cases lexF s (s.size + 1) 0 0 <;> rfl
  clear hr
  obtain ⟨i0, hi, hz0, hz1, hz2⟩ := info_parts info47
  have c := rbad_any s w (by omega)
  rw [badI_none hg] at c
  have hsz : ¬ (s.size : Int) > 16384 := by omega
  have C := Lib.hid c
  have B0 := Lib.hid (Below.refl w.heap.size w)
  clear c hg
  go_enter Try.func17, Try.ntmps17
  go_wp2_with fail
  refine C.out.mono ?_
  rintro e w1 ⟨rfl, rfl⟩
  go_wp2_with fail
  go_loopg [6, 7] (s.size + 1) (fun kx v x wr => ∃ (k n : Nat) (D : List Tok) (u : Value), u = v ∧ x = .int .i64 k ∧ k ≤ s.size ∧ s.size + 1 - k ≤ kx ∧ n ≤ 4000 ∧ Hid (n = D.length) ∧ Hid (∃ f, s.size + 1 - k ≤ f ∧ r = (lexF s f k n).pre D) ∧ wr.ownsRow w.heap.size 53 4 u n (cellsL D) ∧ Below w.heap.size w wr)
  case atStart => exact ⟨0, 0, [], _, rfl, rfl, by omega, by omega, by omega, rfl, ⟨s.size + 1, by omega, HR0.out⟩, World.ownsRow_nil _ _ _ _, B0.out⟩
  case round =>
    obtain ⟨k, n, D, u, rfl, rfl, hk, hkx, hn, HD, HU, hown, hnx⟩ := hrel
    go_wp2_with fail
    refine (lead_any s k wr (by omega) hk).mono ?_
    rintro e w2 ⟨rfl, hb2⟩
    obtain ⟨ha1, ha2⟩ := atK_le s k hk
    have hown2 := own_below hown hb2
    have hnx2 := step_below hnx hb2
    have hltu := hown2.lt
    obtain ⟨A, cap, rfl⟩ := own_slice hown2
    obtain ⟨a, haa⟩ : ∃ a, a = atK s k := ⟨_, rfl⟩
    rw [← haa] at ha1 ha2
    rw [← haa]
    have hgt : ∀ h, (Value.slice A n cap).ownBlock = some h → h < w2.heap.size := fun h e => (hltu h e).2
    have HA := Lib.hid haa
    clear haa
    obtain ⟨ld, hld⟩ : ∃ ld, ld = s.extract k a := ⟨_, rfl⟩
    have R0 := Lib.hid (RowB.new w2 53 #[.int .i64 0, .int .i64 a, .string ld, .string ⟨#[]⟩])
    have B2 := Lib.hid (hnx2.alloc hnx2.size (.cells #[.int .i64 0, .int .i64 a, .string ld, .string ⟨#[]⟩] 53))
    have O2 := Lib.hid (hown2.alloc (.cells #[.int .i64 0, .int .i64 a, .string ld, .string ⟨#[]⟩] 53))
    have HL := Lib.hid hld
    clear hown hown2 hb2 hltu hld
    have hal : a ≤ s.size := by omega
    by_cases hlt : a < s.size
    · go_wp2_with fail
      rw [← HL.out]
      obtain ⟨W, hW⟩ : ∃ W, W = w2.alloc (.cells #[.int .i64 0, .int .i64 a, .string ld, .string ⟨#[]⟩] 53) := ⟨_, rfl⟩
      rw [← hW] at R0 B2 O2
      rw [← hW]
      refine (one_any s a _ (by omega) hlt).mono ?_
      rintro e w3 ⟨ho, hb3⟩
      have R3 := R0.out.below hb3 R0.out.lt
      have O3 := own_below O2.out hb3
      have B3 := step_below B2.out hb3
      rcases oneX_out s k a HA.out hlt with ⟨her, hoe⟩ | ⟨he0, kd, en, hoe, hkd, hk1, hen, hae, hes, htok⟩
      · obtain ⟨er, hee⟩ : ∃ er, er = errK s k := ⟨_, rfl⟩
        rw [hoe, ← hee] at ho
        obtain rfl : e = .returned (.tuple #[.int .i64 0, .int .i64 0, .int .i64 (er : Int)]) := ho
        have HB3 := Lib.hid B3
        have HRR : Hid (r = .bad (er : Int) (a : Int)) := by
          obtain ⟨f, hf, h⟩ := HU.out
          cases f with
          | zero => omega
          | succ f => rw [lexF_err her, ← hee, ← HA.out] at h; exact h
        rw [← hee] at her
        have z1 : ((er : Int) != 0) = true := by rw [bne_iff_ne]; omega
        have z2 : ((er : Int) == 0) = false := by rw [beq_eq_false_iff_ne]; omega
        clear hee hoe
        clear R3 O3 B3 hb3 hW
        go_wp2_with fail
        go_ret3
        exact RL.bad HRR.out HB3.out
      · rw [hoe] at ho
        obtain rfl : e = .returned (.tuple #[.int .i64 (kd : Int), .int .i64 (en : Int), .int .i64 0]) := ho
        clear hoe
        obtain ⟨q0, q1, q2, q3⟩ : w3.cell? ⟨w2.heap.size, 0, none⟩ = some (.int .i64 0) ∧ w3.cell? ⟨w2.heap.size, 1, none⟩ = some (.int .i64 a) ∧ w3.cell? ⟨w2.heap.size, 2, none⟩ = some (.string ld) ∧ w3.cell? ⟨w2.heap.size, 3, none⟩ = some (.string ⟨#[]⟩) := ⟨R3.cell 0, R3.cell 1, R3.cell 2, R3.cell 3⟩
        obtain ⟨f0, f3⟩ : w3.frozen? ⟨w2.heap.size, 0, none⟩ = false ∧ w3.frozen? ⟨w2.heap.size, 3, none⟩ = false := ⟨R3.thaw 0, R3.thaw 3⟩
        have HR3 := Lib.hid R3
        have HO3 := Lib.hid O3
        have HB3 := Lib.hid B3
        have HTK := Lib.hid htok
        have HEN := Lib.hid hen
        have HKD := Lib.hid hkd
        have HE0 := Lib.hid he0
        clear R3 O3 B3 hb3 hW htok hen hkd he0
        by_cases hmany : n = 4000
        · have z1 : (n : Int) ≥ 4000 := by omega
          have HRR : Hid (r = .bad 5 (a : Int)) := by
            obtain ⟨f, hf, h⟩ := HU.out
            subst hmany
            cases f with
            | zero => omega
            | succ f => rw [lexF_many HE0.out, ← HA.out] at h; exact h
          go_wp2_with fail
          go_ret3
          exact RL.bad HRR.out (below_put HB3.out hnx2.size 0 _)
        · have z1 : ¬ (n : Int) ≥ 4000 := by omega
          obtain ⟨tx, htx⟩ : ∃ tx, tx = s.extract a en := ⟨_, rfl⟩
          have hne : (Value.slice A n cap).ownBlock ≠ some w2.heap.size := fun h => by have := hgt _ h; omega
          obtain ⟨X, hX⟩ : ∃ X, X = (w3.setCell ⟨w2.heap.size, 0, none⟩ (.int .i64 kd)).setCell ⟨w2.heap.size, 3, none⟩ (.string tx) := ⟨_, rfl⟩
          have OX : X.ownsRow w.heap.size 53 4 (.slice A n cap) n (cellsL D) := by
            rw [hX]
            exact ownsRow_setCell_other (ownsRow_setCell_other HO3.out (a := ⟨w2.heap.size, 0, none⟩) hne _) (a := ⟨w2.heap.size, 3, none⟩) hne _
          have RX : RowB X w2.heap.size 53 #[.int .i64 kd, .int .i64 a, .string ld, .string tx] := by
            rw [hX]
            exact (HR3.out.put 0 _).put 3 _
          have BX : Below w.heap.size w X := by rw [hX]; exact below_put (below_put HB3.out hnx2.size 0 _) hnx2.size 3 _
          have hXs : X.heap.size = w3.heap.size := by rw [hX]; simp [World.setCell]
          have HXs := Lib.hid hXs
          have BX2 := Lib.hid (BX.alloc BX.size (.cells #[.int .i64 kd, .int .i64 a, .string ld, .string tx] 53))
          have RX2 := Lib.hid (RX.alloc (.cells #[.int .i64 kd, .int .i64 a, .string ld, .string tx] 53))
          have OX2 := Lib.hid (OX.alloc (.cells #[.int .i64 kd, .int .i64 a, .string ld, .string tx] 53))
          have C1 := Lib.hid (cells_tok X (.int .i64 kd) (.int .i64 a) (.string ld) (.string tx))
          have b5 : Hid (w.heap.size ≤ (X.alloc (.cells #[.int .i64 kd, .int .i64 a, .string ld, .string tx] 53)).heap.size) := BX2.out.size
          have b3 : n + 1 ≤ maxLen := by unfold maxLen; omega
          have b4 : (n + 1) * 48 ≤ 140737488355328 := by omega
          have HTX := Lib.hid htx
          have HGT := Lib.hid hgt
          have HNM := Lib.hid hmany
          rw [hX, htx] at OX2 C1 BX2 RX2 b5
          clear OX RX BX hXs hX htx hgt hne HR3 HO3 HB3 hmany
          go_wp2_with (at_builtin; refine wpList_append_own _ rfl (.tmp 61) (.tmp 63) 22 rfl w.heap.size 53 i0 (.agg #[.int .i64 0, .int .i64 0, .string ⟨#[]⟩, .string ⟨#[]⟩]) 4 48 Try.underlying22 hi hz0 hz1 hz2 rfl (by decide) _ _ _ rfl OX2.out ⟨w3.heap.size, 0, none⟩ 1 1 [.int .i64 kd, .int .i64 a, .string ld, .string (s.extract a en)] rfl rfl (by simpa [World.setCell] using C1.out) (one_tok _ _ _ _) b3 b4 b5.out ?_)
          intro v' w4 hown' hgrow _
          have R4 := Lib.hid (RX2.out.grown hgrow (fun h => by have := HGT.out _ h.symm; omega))
          have B4 := Lib.hid (BX2.out.grown hgrow b5.out (fun j hj => (OX2.out.lt j hj).1))
          have O4 : Hid (w4.ownsRow w.heap.size 53 4 v' (n + 1) (cellsL (D ++ [⟨kd, a, ld, s.extract a en⟩]))) := by
            unfold Hid; rw [cellsL_snoc]; exact hown'
          have z2 : ((kd : Int) == 0) = false := by rw [beq_eq_false_iff_ne]; omega
          have q0' : w4.cell? ⟨w2.heap.size, 0, none⟩ = some (.int .i64 kd) := R4.out.cell 0
          have HU2 : Hid (∃ f, s.size + 1 - en ≤ f ∧ r = (lexF s f en (n + 1)).pre (D ++ [⟨kd, a, ld, s.extract a en⟩])) := by
            obtain ⟨f, hf, h⟩ := HU.out
            cases f with
            | zero => omega
            | succ f =>
              rw [lexF_next HE0.out HNM.out (by rw [← HKD.out]; exact hk1), ← HEN.out, pre_pre, HTK.out] at h
              exact ⟨f, by omega, by rw [h, HL.out]⟩
          have hn1 : n + 1 ≤ 4000 := by have := HNM.out; omega
          clear hown' hgrow b3 b4 b5 C1 OX2 BX2 RX2 q0 q1 q2 q3 f0 f3
          go_wp2_with fail
          go_roundg (s.size + 1 - en)
          case measure => omega
          case rel => exact ⟨en, n + 1, _, _, rfl, rfl, hes, by omega, hn1, by show _ = _; rw [List.length_append, ← HD.out]; rfl, HU2.out, O4.out, B4.out⟩
    · obtain rfl : a = s.size := by omega
      have hnl : ¬ (s.size : Int) < (s.size : Int) := by omega
      obtain ⟨w3, hW⟩ : ∃ W, W = w2.alloc (.cells #[.int .i64 0, .int .i64 s.size, .string ld, .string ⟨#[]⟩] 53) := ⟨_, rfl⟩
      have HW := Lib.hid hW
      rw [← hW] at R0 B2 O2
      clear hW
      obtain ⟨q0, q1, q2, q3⟩ : w3.cell? ⟨w2.heap.size, 0, none⟩ = some (.int .i64 0) ∧ w3.cell? ⟨w2.heap.size, 1, none⟩ = some (.int .i64 s.size) ∧ w3.cell? ⟨w2.heap.size, 2, none⟩ = some (.string ld) ∧ w3.cell? ⟨w2.heap.size, 3, none⟩ = some (.string ⟨#[]⟩) := ⟨R0.out.cell 0, R0.out.cell 1, R0.out.cell 2, R0.out.cell 3⟩
      obtain ⟨f0, f3⟩ : w3.frozen? ⟨w2.heap.size, 0, none⟩ = false ∧ w3.frozen? ⟨w2.heap.size, 3, none⟩ = false := ⟨R0.out.thaw 0, R0.out.thaw 3⟩
      by_cases hmany : n = 4000
      · have z1 : (n : Int) ≥ 4000 := by omega
        have B2' := B2.out
        rw [HW.out] at B2'
        have HB2 := Lib.hid B2'
        have HRR : Hid (r = .bad 5 (s.size : Int)) := by
          obtain ⟨f, hf, h⟩ := HU.out
          subst hmany
          cases f with
          | zero => omega
          | succ f => rw [lexF_many (oneX_end s k HA.out.symm).1, ← HA.out] at h; exact h
        clear B2'
        go_wp2_with fail
        go_ret3
        exact RL.bad HRR.out (by first | exact HB2.out | (rw [← HL.out]; exact HB2.out))
      · have z1 : ¬ (n : Int) ≥ 4000 := by omega
        have OX : (w2.alloc (.cells #[.int .i64 0, .int .i64 s.size, .string (s.extract k s.size), .string ByteArray.empty] 53)).ownsRow w.heap.size 53 4 (.slice A n cap) n (cellsL D) := by
          have := O2.out; rw [HW.out, HL.out] at this; exact this
        have RX : RowB (w2.alloc (.cells #[.int .i64 0, .int .i64 s.size, .string (s.extract k s.size), .string ByteArray.empty] 53)) w2.heap.size 53 #[.int .i64 0, .int .i64 s.size, .string (s.extract k s.size), .string ByteArray.empty] := RowB.new _ _ _
        have BX : Below w.heap.size w (w2.alloc (.cells #[.int .i64 0, .int .i64 s.size, .string (s.extract k s.size), .string ByteArray.empty] 53)) := by
          have := B2.out; rw [HW.out, HL.out] at this; exact this
        have BX2 := Lib.hid (BX.alloc BX.size (.cells #[.int .i64 0, .int .i64 s.size, .string (s.extract k s.size), .string ByteArray.empty] 53))
        have RX2 := Lib.hid (RX.alloc (.cells #[.int .i64 0, .int .i64 s.size, .string (s.extract k s.size), .string ByteArray.empty] 53))
        have OX2 := Lib.hid (OX.alloc (.cells #[.int .i64 0, .int .i64 s.size, .string (s.extract k s.size), .string ByteArray.empty] 53))
        have C1 := Lib.hid (cells_tok (w2.alloc (.cells #[.int .i64 0, .int .i64 s.size, .string (s.extract k s.size), .string ByteArray.empty] 53)) (.int .i64 0) (.int .i64 s.size) (.string (s.extract k s.size)) (.string ByteArray.empty))
        have b5 : Hid (w.heap.size ≤ ((w2.alloc (.cells #[.int .i64 0, .int .i64 s.size, .string (s.extract k s.size), .string ByteArray.empty] 53)).alloc (.cells #[.int .i64 0, .int .i64 s.size, .string (s.extract k s.size), .string ByteArray.empty] 53)).heap.size) := BX2.out.size
        have b3 : n + 1 ≤ maxLen := by unfold maxLen; omega
        have b4 : (n + 1) * 48 ≤ 140737488355328 := by omega
        have HGT := Lib.hid hgt
        have HNM := Lib.hid hmany
        have HE := Lib.hid (show s.extract s.size s.size = ByteArray.empty by simp)
        clear OX RX BX hgt hmany q0 q1 q2 q3 f0 f3 R0 B2 O2 HW
        clear w3
        go_wp2_with (at_builtin; refine wpList_append_own _ rfl (.tmp 61) (.tmp 63) 22 rfl w.heap.size 53 i0 (.agg #[.int .i64 0, .int .i64 0, .string ⟨#[]⟩, .string ⟨#[]⟩]) 4 48 Try.underlying22 hi hz0 hz1 hz2 rfl (by decide) _ _ _ rfl OX2.out ⟨w2.heap.size + 1, 0, none⟩ 1 1 [.int .i64 0, .int .i64 s.size, .string (s.extract k s.size), .string ByteArray.empty] rfl rfl (by simpa using C1.out) (one_tok _ _ _ _) b3 b4 b5.out ?_)
        intro v' w4 hown' hgrow _
        have R4 := Lib.hid (RX2.out.grown hgrow (fun h => by have := HGT.out _ h.symm; omega))
        have B4 := Lib.hid (BX2.out.grown hgrow b5.out (fun j hj => (OX2.out.lt j hj).1))
        have O4 : Hid (w4.ownsRow w.heap.size 53 4 v' (n + 1) (cellsL (D ++ [⟨0, s.size, s.extract k s.size, s.extract s.size s.size⟩]))) := by
          unfold Hid; rw [cellsL_snoc, HE.out]; exact hown'
        have q0' : w4.cell? ⟨w2.heap.size, 0, none⟩ = some (.int .i64 0) := R4.out.cell 0
        have HF : Hid (r = .good (D ++ [⟨0, s.size, s.extract k s.size, s.extract s.size s.size⟩])) := by
          obtain ⟨f, hf, h⟩ := HU.out
          obtain ⟨h1, h2⟩ := oneX_end s k HA.out.symm
          cases f with
          | zero => omega
          | succ f => rw [lexF_end h1 HNM.out (by rw [h2]), h2] at h; exact h
        have hn1 : n + 1 ≤ 4000 := by have := HNM.out; omega
        clear hown' hgrow b3 b4 b5 C1 OX2 BX2 RX2
        go_wp2_with fail
        go_ret3
        exact RL.good HF.out B4.out (by rw [List.length_append, ← HD.out]; exact O4.out) (by rw [List.length_append, ← HD.out]; exact hn1)
end Go.Proofs.Ytnefnnoleeeedaa
namespace Go.Proofs.Ytnefnnoleeeedaa
open Go.RowKit
set_option maxHeartbeats 2000000 in
theorem rlext_any (s : ByteArray) (hs : (s.size : Int) ≤ 9223372036854775807) (w : World) : Calls Try.prog 17 #[.string s] w (Lext s w) := by
  by_cases hb : s.size > 16384
  · have hz : (s.size : Int) > 16384 := by omega
    have HR : Hid (lexR s = .bad 5 16384) := by show _ = _; unfold lexR; rw [if_pos hb]
    clear hb
    go_enter Try.func17, Try.ntmps17
    go_wp2_with fail
    go_ret3
    refine ⟨Below.refl _ _, ?_⟩
    rw [HR.out]
    rfl
  · by_cases hg : badAt s.data.toList = none
    · have hx : lexR s = lexF s (s.size + 1) 0 0 := by unfold lexR; rw [if_neg hb, if_neg (by simp [hg])]
      refine (rlex_any s (by omega) hg w).mono fun e w' h => lext_of ?_
      unfold Lexed
      rw [hx]
      exact h
    · have c := rbad_any s w (by omega)
      have hn : 0 ≤ badI s.data.toList := by
        unfold badI
        split
        · rename_i h'; exact absurd h' hg
        · omega
      have HR : Hid (lexR s = .bad 20 (badI s.data.toList)) := by show _ = _; unfold lexR; rw [if_neg hb, if_pos (by simpa using hg)]
      obtain ⟨b, hb'⟩ : ∃ b, b = badI s.data.toList := ⟨_, rfl⟩
      rw [← hb'] at c hn HR
      have C := Lib.hid c
      have hz : ¬ (s.size : Int) > 16384 := by omega
      have hbz : b ≥ 0 := hn
      clear c hb hg hn hb'
      go_enter Try.func17, Try.ntmps17
      go_wp2_with fail
      refine C.out.mono ?_
      rintro e w1 ⟨rfl, rfl⟩
      go_wp2_with fail
      go_ret3
      refine ⟨Below.refl _ _, ?_⟩
      rw [HR.out]
      rfl
end Go.Proofs.Ytnefnnoleeeedaa
namespace Go.Proofs.Ytnefnnoleeeedaa
open Go.RowKit
namespace Pg
open Ps
set_option maxHeartbeats 4000000 in
set_option maxRecDepth 100000 in
theorem rparse_any (l : List Tok) (A : Option Addr) (c : Nat) (w : World) (hT : TokAt w A l) (W : Wf2 l) (hc : l.length ≤ c) :
    Calls Try.prog 15 #[.slice A l.length c] w (OutQ l.length w (parseM l)) := by
  have hpos := W.pos
  have hle := W.le
  obtain ⟨g, eg, hg, ht⟩ := hT hpos
  subst eg
  obtain ⟨la, hla⟩ : ∃ la, la + 1 = l.length := ⟨l.length - 1, by omega⟩
  have hlai : la < l.length := by omega
  have c0 := (ht la hlai).1
  have hk0 : l[la].kind = 0 := by
    by_cases hk : l[la].kind = 0
    · exact hk
    · have := W.next la hlai hk; omega
  rw [hk0] at c0
  obtain ⟨⟨qf, qi, qb⟩, hq, _⟩ := items_some W.toWf
  have hpm : parseM l = wholeM l (.one ⟨1, 0, qi, e0, 0⟩ qf, qi, qb) := by unfold parseM; rw [hq]
  obtain ⟨o, hof⟩ : ∃ o, o = parseM l := ⟨_, rfl⟩
  rw [← hof]
  have HO : Hid (o = wholeM l (.one ⟨1, 0, qi, e0, 0⟩ qf, qi, qb)) := by unfold Hid; rw [hof, hpm]
  have hd := items_deep' hq
  have hw := items_wide' hq
  dsimp only at hd hw
  have b0 := bel1 w (.cells zcc 25)
  have b1 := b0.alloc b0.size (.cells #[.slice (some ⟨g, 0, none⟩) l.length c, .int .i64 (-1)] 87)
  have B2 := Lib.hid b1
  have R1 : Hid (RowB ((w.alloc (.cells zcc 25)).alloc (.cells #[.slice (some ⟨g, 0, none⟩) l.length c, .int .i64 (-1)] 87)) w.heap.size 25 zcc) := (RowB.new w 25 zcc).alloc _
  have ST : Ps.St (⟨w.heap.size + 1, some ⟨g, 0, none⟩, l, c⟩ : Cx) ((w.alloc (.cells zcc 25)).alloc (.cells #[.slice (some ⟨g, 0, none⟩) l.length c, .int .i64 (-1)] 87)) (-1) := by
    refine ⟨by simpa using RowB.new (w.alloc (.cells zcc 25)) 87 #[.slice (some ⟨g, 0, none⟩) l.length c, .int .i64 (-1)], ⟨g, rfl, by dsimp only; omega, fun i hi => ?_⟩, W.toWf, hc, by dsimp only; omega⟩
    obtain ⟨t0, t1, t2, t3⟩ := ht i hi
    exact ⟨(b1.cell (p := ⟨g, i * 4, none⟩) hg).trans t0, (b1.cell (p := ⟨g, i * 4 + 1, none⟩) hg).trans t1, (b1.cell (p := ⟨g, i * 4 + 2, none⟩) hg).trans t2, (b1.cell (p := ⟨g, i * 4 + 3, none⟩) hg).trans t3⟩
  have CK := Lib.hid (Ps.rfile_any (⟨w.heap.size + 1, some ⟨g, 0, none⟩, l, c⟩ : Cx) fuel (by unfold fuel; omega) _ qf qi qb hq ST)
  have HWW := Lib.hid W
  have e1 : IntKind.i64.wrap ((l.length : Int) - 1) = (la : Int) := by rw [IntKind.wrap_i64]; omega
  have hli : (la : Int) < (l.length : Int) := by omega
  have h0 : ((l.length : Int) == 0) = false := by rw [beq_eq_false_iff_ne]; omega
  have h4 : ¬ (l.length : Int) > 4000 := by omega
  clear b0 b1 ST hq hpm hof hT W ht hk0 hla
  go_enter Try.func15, Try.ntmps15
  go_wp2_with fail
  refine CK.out.mono ?_
  rintro e w3 ⟨A1, c1, rfl, hk, hS, hF, hlt, hend⟩
  try dsimp only at hlt hend
  have HEND := Lib.hid hend
  have B3 := Lib.hid (B2.out.trans (Fr.below hF (B' := w.heap.size) (by simp; omega) (by first | omega | (dsimp only; omega))))
  have R3 := Lib.hid (hF.row R1.out (by simp; omega) (by first | omega | (dsimp only; omega)))
  have hs3 : w.heap.size + 1 < w3.heap.size := by have := hF.size; simp at this; omega
  have HK : Hid (KV w3 (fun g => w.heap.size + 2 ≤ g) qf A1 c1) := hk.keep (Nat.le_refl _) (fun g hg _ => ⟨rfl, by simp at hg; omega⟩)
  have bz := bel1 w3 (.cells #[.int .i64 1, .int .i64 0, .int .i64 qi, .string e0, .int .i64 0, .slice A1 qf.len c1] 25)
  have B4 := Lib.hid (B3.out.alloc B3.out.size (.cells #[.int .i64 1, .int .i64 0, .int .i64 qi, .string e0, .int .i64 0, .slice A1 qf.len c1] 25))
  have R4 := Lib.hid (R3.out.below bz R3.out.lt)
  have Q4 := Lib.hid (RowB.new w3 25 #[.int .i64 1, .int .i64 0, .int .i64 qi, .string e0, .int .i64 0, .slice A1 qf.len c1])
  have S4 := hS.below bz
  have K4 := Lib.hid (HK.out.below bz)
  have r1 := R4.out.cell
  have r2 := R4.out.thaw
  have r3 := Q4.out.cell
  have r4 := S4.row.cell
  have hbl := S4.bl
  dsimp only at r4 hbl
  clear hk hF CK B2 R1 HK B3 R3 bz S4 hS c0 hend
  by_cases hb : 0 ≤ qb
  · have z1 : decide (qb ≥ 0) = true := decide_eq_true hb
    have z2 : qb ≥ 0 := hb
    have HO' : Hid (o = .bad 24 qb.toNat) := by
      unfold Hid
      rw [HO.out]
      unfold wholeM
      rw [if_pos (by dsimp only; exact hb)]
    have hqq : (qb.toNat : Int) = qb := by omega
    have hql : qb.toNat < l.length := by omega
    clear HO
    go_wp2_with fail
    go_region
    all_goals
      go_wp2
      refine bodyPost_ret (v := .tuple #[nv0, .int .i64 24, .int .i64 qb]) ?_ rfl ⟨(below_put6 B4.out (Nat.le_refl _) _ _ _ _ _ _).drew, by rw [HO'.out]; exact ⟨by rw [hqq]; rfl, hql⟩⟩
      simp [results, Try.results15, go_sem, r1]
      try first | rfl | exact ⟨rfl, rfl⟩
  · have z1 : decide (qb ≥ 0) = false := decide_eq_false (by omega)
    have z2 : ¬ qb ≥ 0 := by omega
    have hkz := HEND.out (by omega)
    have hnn : ¬ qi + 1 < l.length := fun h => HWW.out.conv qi hlt h (by rw [← Ps.kindAt_get hlt]; exact hkz)
    obtain ⟨dk, hdk⟩ : ∃ dk, dk = 1 + qf.deep := ⟨_, rfl⟩
    have CD := rdepth_any qf.deep ⟨1, 0, qi, e0, 0⟩ qf A1 c1 _ _ (Nat.le_refl _) (by omega) (by omega) (by omega) K4.out
    rw [← hdk] at CD
    have CD := Lib.hid CD
    have HO2 : Hid (o = if 60 < dk then .bad 25 0 else .ok ⟨1, 0, qi, e0, 0⟩ qf) := by
      unfold Hid
      rw [HO.out]
      unfold wholeM
      rw [if_neg (by dsimp only; exact hb), if_neg (by dsimp only; exact hnn)]
      simp only [Fo.one, hdk]
    clear hkz hnn hdk HO HWW HEND
    go_wp2_with fail
    refine CD.out.mono ?_
    rintro e w5 ⟨rfl, hb5⟩
    have B5 := Lib.hid (B4.out.trans (hb5.mono B4.out.size))
    have R5 := Lib.hid (R4.out.below hb5 R4.out.lt)
    have Q5 := Lib.hid (Q4.out.below hb5 Q4.out.lt)
    have K5 := Lib.hid (K4.out.below hb5)
    have r1 := R5.out.cell
    have r2 := R5.out.thaw
    have r3 := Q5.out.cell
    clear hb5 CD B4 R4 Q4 K4 r4
    by_cases h60 : 60 < dk
    · have z3 : decide ((dk : Int) > 60) = true := decide_eq_true (by omega)
      have z4 : (dk : Int) > 60 := by omega
      have HO' : Hid (o = .bad 25 0) := by
        unfold Hid
        rw [HO2.out, if_pos h60]
      go_wp2
      refine bodyPost_ret (v := .tuple #[nv0, .int .i64 25, .int .i64 0]) ?_ rfl ⟨below_put6 B5.out (Nat.le_refl _) _ _ _ _ _ _, by rw [HO'.out]; exact ⟨rfl, hpos⟩⟩
      simp [results, Try.results15, go_sem, r1]
      try first | rfl | exact ⟨rfl, rfl⟩
    · have z3 : decide ((dk : Int) > 60) = false := decide_eq_false (by omega)
      have z4 : ¬ (dk : Int) > 60 := by omega
      have HO' : Hid (o = .ok ⟨1, 0, qi, e0, 0⟩ qf) := by
        unfold Hid
        rw [HO2.out, if_neg h60]
      go_wp2
      refine bodyPost_ret (v := .tuple #[nvv ⟨1, 0, qi, e0, 0⟩ A1 qf.len c1, .int .i64 0, .int .i64 0]) ?_ rfl ⟨below_put6 B5.out (Nat.le_refl _) _ _ _ _ _ _, by rw [HO'.out]; exact ⟨A1, c1, rfl, K5.out.keep (by simp [World.setCell]) (fun g hg _ => ⟨by iterate 6 rw [Below.heap_setCell _ _ _ _ (by dsimp only; omega)], by omega⟩)⟩⟩
      simp [results, Try.results15, go_sem, r1]
      try first | rfl | exact ⟨rfl, rfl⟩
set_option maxHeartbeats 1000000 in
set_option maxRecDepth 100000 in
theorem rof_any (s : ByteArray) (hs : (s.size : Int) ≤ 9223372036854775807) (w : World) : Calls Try.prog 7 #[.string s] w (OfQ w (ofM s)) := by
  have R0 := Lib.hid (RowB.new w 25 zcc)
  have B0 := Lib.hid (bel1 w (.cells zcc 25))
  have CL := rlext_any s hs (w.alloc (.cells zcc 25))
  obtain ⟨o, hof⟩ : ∃ o, o = ofM s := ⟨_, rfl⟩
  rw [← hof]
  unfold ofM at hof
  unfold Lext at CL
  cases hx : lexR s with
  | bad er a =>
    rw [hx] at CL hof
    dsimp only at hof
    subst hof
    have CL := Lib.hid CL
    have hne := lexR_bad hx
    have h1 : (er == 0) = false := by rw [beq_eq_false_iff_ne]; exact hne
    have h2 : (er != 0) = true := by rw [bne_iff_ne]; exact hne
    clear hx
    go_enter Try.func7, Try.ntmps7
    go_wp2_with fail
    refine CL.out.mono ?_
    rintro e w1 ⟨hb, rfl⟩
    have B1 := Lib.hid (B0.out.trans (hb.mono (by simp)))
    have R1 := R0.out.below hb (by simp)
    have r1 := R1.cell
    have r2 := R1.thaw
    clear hb CL R1 R0 B0
    go_wp2
    refine bodyPost_ret (v := .tuple #[.slice none 0 0, nv0, .int .i64 er, .int .i64 a]) ?_ rfl ⟨below_put6 B1.out (Nat.le_refl _) _ _ _ _ _ _, rfl⟩
    simp [results, Try.results7, go_sem, r1]
    try first | rfl | exact ⟨rfl, rfl⟩
  | good l =>
    rw [hx] at CL hof
    have CL := Lib.hid CL
    have HOF := Lib.hid hof
    have HX := Lib.hid hx
    clear hx hof
    go_enter Try.func7, Try.ntmps7
    go_wp2_with fail
    refine CL.out.mono ?_
    rintro e w1 ⟨hb, A, c, rfl, hTA, hle, hc⟩
    have W := lexR_wf HX.out hle
    have HW := Lib.hid W
    have hpos := W.pos
    have hcc := hc hpos
    have B1 := Lib.hid (B0.out.trans (hb.mono (by simp)))
    have R1 := Lib.hid (R0.out.below hb (by simp))
    have HTA := Lib.hid hTA
    have CP := Lib.hid (rparse_any l A c w1 hTA W hcc)
    have hsz : w.heap.size < w1.heap.size := by have := hb.size; simp at this; omega
    have HNE : Hid (∀ g, A = some ⟨g, 0, none⟩ → g ≠ w.heap.size) := fun g eg e => by
      obtain ⟨g', eg', _, ht⟩ := hTA hpos
      rw [eg] at eg'
      injection eg' with eg'
      injection eg' with eg'
      have h1 := (ht 0 hpos).2.2.1
      rw [← eg', e] at h1
      have h2 := R1.out.cell 2
      rw [show 0 * 4 + 2 = 2 from rfl, h2] at h1
      simp at h1
    clear hb CL R0 B0 hTA hc W HX
    go_wp2_with fail
    refine CP.out.mono ?_
    rintro e w2 ⟨hb, ho⟩
    have B2 := Lib.hid (B1.out.trans (hb.mono (by omega)))
    have R2 := Lib.hid (R1.out.below hb (by omega))
    have HTB := Lib.hid (HTA.out.below hb)
    have hsz2 : w.heap.size < w2.heap.size := by have := hb.size; omega
    clear hb CP R1 B1
    cases hp : parseM l with
    | bad er a =>
      rw [hp] at ho
      obtain ⟨rfl, hal⟩ := ho
      have her := parse_bad HW.out hp
      have HO : Hid (o = .bad er (atOf l a : Int)) := by
        unfold Hid
        rw [HOF.out, hp]
      have h1 : ((er : Int) == 0) = false := by rw [beq_eq_false_iff_ne]; omega
      have h2 : ((er : Int) != 0) = true := by rw [bne_iff_ne]; omega
      obtain ⟨g, eg, hg, ht⟩ := HTB.out hpos
      obtain ⟨_, c1, _, _⟩ := ht a hal
      have hat : atOf l a = l[a].at_ := by unfold atOf; rw [List.getElem?_eq_getElem hal]; rfl
      rw [← hat] at c1
      have hali : (a : Int) < (l.length : Int) := by omega
      have r1 := R2.out.cell
      have r2 := R2.out.thaw
      generalize atOf l a = at1 at *
      have hne := HNE.out g eg
      have hne2 : w.heap.size ≠ g := fun e => hne e.symm
      subst eg
      clear hp her ht hat HTA HTB
      go_wp2_with fail
      go_region
      all_goals
        go_wp2
        refine bodyPost_ret (v := .tuple #[.slice none 0 0, nv0, .int .i64 er, .int .i64 at1]) ?_ rfl ⟨((below_put6 B2.out (Nat.le_refl _) _ _ _ _ _ _).alloc (by simp [World.setCell]; omega) _).drew, by rw [HO.out]⟩
        have r7 := row6 R2.out rfl (.int .i64 0) (.int .i64 0) (.int .i64 0) (.string ⟨#[]⟩) (.int .i64 0) (.slice none 0 0) (.cells #[.int .i64 0, .int .i64 0, .int .i64 0, .string ⟨#[]⟩, .int .i64 0, .slice none 0 0] 25)
        simp [results, Try.results7, go_sem, r7]
    | ok h k =>
      rw [hp] at ho
      obtain ⟨A1, c1, rfl, hk⟩ := ho
      obtain ⟨x1, x2, x3, x4, x5⟩ := h
      have HK := Lib.hid hk
      have HO : Hid (o = .ok l ⟨x1, x2, x3, x4, x5⟩ k) := by
        unfold Hid
        rw [HOF.out, hp]
      have r1 := R2.out.cell
      have r2 := R2.out.thaw
      clear hk hp
      go_wp2_with fail
      go_region
      all_goals
        go_wp2
        refine bodyPost_ret (v := .tuple #[.slice A l.length c, nvv ⟨x1, x2, x3, x4, x5⟩ A1 k.len c1, .int .i64 0, .int .i64 0]) ?_ rfl ⟨((below_put6 B2.out (Nat.le_refl _) _ _ _ _ _ _).alloc (by simp [World.setCell]; omega) _).drew, by rw [HO.out]; exact ⟨A, c, A1, c1, rfl, TokAt.frame HTB.out (frame6 _ _ _ _ _ _ _ _ _) HNE.out, hcc, HK.out.keep (frame6 w2 w.heap.size _ _ _ _ _ _ _).size (fun g hg hl => ⟨(frame6 w2 w.heap.size _ _ _ _ _ _ _).block g hl (by omega), by omega⟩)⟩⟩
        have r7 := row6 R2.out rfl (.int .i64 x1) (.int .i64 x2) (.int .i64 x3) (.string x4) (.int .i64 x5) (.slice A1 k.len c1) (.cells (ncc ⟨x1, x2, x3, x4, x5⟩ A1 k.len c1) 25)
        simp [results, Try.results7, go_sem, r7]
end Pg
end Go.Proofs.Ytnefnnoleeeedaa
