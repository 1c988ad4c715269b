/- Contracts: the document's Lex: what means nothing, words. -/
import Derived.Test.YthlkjfkgdijfdaaGreatDoorTH
import Derived.Test.YthlkjfkgdijfdaaGreatDoorLA
import Derived.Test.YthlkjfkgdijfdaaGreatDoorMR1
import Derived.Deep.LoopGhost
import Derived.BigQuiet
/- Contracts: the document's answer for package token: where what means nothing ends. -/
namespace Go.Proofs.YthlkjfkgdijfdaaGreatDoor
open Go.RowKit

theorem lead_cons (c : Bool) (b : UInt8) (t : List UInt8) : runM cmt lGo c (b :: t) = if lGo c b.toNat then 1 + runM cmt lGo (cmt c b.toNat) t else 0 := by
  rw [runM]
theorem lead_blank {b : UInt8} {t : List UInt8} (h : blkN b.toNat = true) (h2 : (b.toNat : Int) ≠ 35) : runM cmt lGo false (b :: t) = 1 + runM cmt lGo false t := by
  have hc : cmt false b.toNat = false := by unfold cmt; split <;> simp_all
  rw [lead_cons, hc]
  unfold lGo
  rw [hc, h]
  rfl
theorem lead_stop {b : UInt8} {t : List UInt8} (h : blkN b.toNat = false) (h2 : (b.toNat : Int) ≠ 35) : runM cmt lGo false (b :: t) = 0 := by
  have hc : cmt false b.toNat = false := by unfold cmt; split <;> simp_all
  rw [lead_cons]
  unfold lGo
  rw [hc, h]
  rfl
theorem lead_hash {b : UInt8} {t : List UInt8} (h : (b.toNat : Int) = 35) : runM cmt lGo false (b :: t) = runM cmt lGo true (b :: t) := by
  have h1 : cmt false b.toNat = true := by unfold cmt; rw [if_neg (by omega), if_pos h]
  have h2 : cmt true b.toNat = true := by unfold cmt; rw [if_neg (by omega), if_pos h]
  rw [lead_cons, lead_cons]
  unfold lGo
  rw [h1, h2]
theorem lead_in {b : UInt8} {t : List UInt8} (h : (b.toNat : Int) ≠ 10) : runM cmt lGo true (b :: t) = 1 + runM cmt lGo true t := by
  have h2 : cmt true b.toNat = true := by unfold cmt; rw [if_neg h]; split <;> rfl
  rw [lead_cons]
  unfold lGo
  rw [h2]
  rfl
theorem lead_lf {b : UInt8} {t : List UInt8} (h : (b.toNat : Int) = 10) : runM cmt lGo true (b :: t) = runM cmt lGo false (b :: t) := by
  have h1 : cmt false b.toNat = false := by unfold cmt; rw [if_pos h]
  have h2 : cmt true b.toNat = false := by unfold cmt; rw [if_pos h]
  rw [lead_cons, lead_cons]
  unfold lGo
  rw [h1, h2]
theorem lead_nil (c : Bool) : runM cmt lGo c [] = 0 := by rw [runM]

theorem tl_cons (s : ByteArray) (k : Nat) (h : k < s.size) : tl s k = s[k] :: tl s (k + 1) := by
  unfold tl
  rw [List.drop_eq_getElem_cons (by simpa using h)]
  rfl

set_option maxHeartbeats 4000000 in
set_option maxRecDepth 100000 in
theorem lead_any (s : ByteArray) (k : Nat) (w : World) (hs : s.size ≤ 100000) (hk : k ≤ s.size) : Calls Tryz.prog 32 #[.string s, .int .i64 k] w fun e w' => e = .returned (.int .i64 (atK s k)) ∧ Below w.heap.size w w' := by
  go_enter Tryz.func32, Tryz.ntmps32
  go_wp2_with fail
  go_loopg [1] (s.size + 1) (fun kx v wr => ∃ j : Nat, v = .int .i64 j ∧ j ≤ s.size ∧ s.size - j ≤ kx ∧ Hid (j + runM cmt lGo false (tl s j) = atK s k) ∧ Hid (Below w.heap.size w wr))
  case atStart => exact ⟨k, rfl, hk, by omega, rfl, Below.refl _ _⟩
  case round =>
    obtain ⟨j, rfl, hj, hkx, HA, HB⟩ := hrel
    by_cases hlt : j < s.size
    · have hc := tl_cons s j hlt
      by_cases hbl : blkN (s[j]'hlt).toNat = true
      · have h35 : ((s[j]'hlt).toNat : Int) ≠ 35 := by unfold blkN at hbl; simp only [decide_eq_true_eq] at hbl; omega
        have HN : Hid ((j + 1) + runM cmt lGo false (tl s (j + 1)) = atK s k) := by
          unfold Hid; rw [← HA.out, hc, lead_blank hbl h35]; omega
        have hb4 : ((s[j]'hlt).toNat : Int) = 32 ∨ ((s[j]'hlt).toNat : Int) = 9 ∨ ((s[j]'hlt).toNat : Int) = 10 ∨ ((s[j]'hlt).toNat : Int) = 13 := by
          unfold blkN at hbl; simpa using hbl
        clear hbl h35 hc
        rcases hb4 with hb | hb | hb | hb
        all_goals
          go_wp2_with fail
          go_roundg (s.size - (j + 1))
          case measure => omega
          case rel => exact ⟨j + 1, by go_num, by omega, by omega, HN.out, HB.out⟩
      · have hbl' : blkN (s[j]'hlt).toNat = false := by simpa using hbl
        have hnb : ¬ (((s[j]'hlt).toNat : Int) = 32) ∧ ¬ (((s[j]'hlt).toNat : Int) = 9) ∧ ¬ (((s[j]'hlt).toNat : Int) = 10) ∧ ¬ (((s[j]'hlt).toNat : Int) = 13) := by
          unfold blkN at hbl'; simp only [decide_eq_false_iff_not] at hbl'; omega
        obtain ⟨n1, n2, n3, n4⟩ := hnb
        have m1 : (((s[j]'hlt).toNat : Int) == 32) = false := by rw [beq_eq_false_iff_ne]; exact n1
        have m2 : (((s[j]'hlt).toNat : Int) == 9) = false := by rw [beq_eq_false_iff_ne]; exact n2
        have m3 : (((s[j]'hlt).toNat : Int) == 10) = false := by rw [beq_eq_false_iff_ne]; exact n3
        have m4 : (((s[j]'hlt).toNat : Int) == 13) = false := by rw [beq_eq_false_iff_ne]; exact n4
        by_cases h35 : ((s[j]'hlt).toNat : Int) = 35
        · have HI : Hid (j + runM cmt lGo true (tl s j) = atK s k) := by
            unfold Hid; rw [← HA.out, hc, lead_hash h35]
          clear hbl hbl' hc HA n1 n2 n3 n4
          go_wp2_with fail
          go_loopg [1] (s.size + 1) (fun kx2 v wr => ∃ i : Nat, v = .int .i64 i ∧ j ≤ i ∧ i ≤ s.size ∧ s.size - i ≤ kx2 ∧ (i = j ∨ j < i) ∧ Hid (i + runM cmt lGo true (tl s i) = atK s k) ∧ Hid (Below w.heap.size w wr))
          case atStart => exact ⟨j, rfl, Nat.le_refl _, by omega, by omega, .inl rfl, HI.out, HB.out⟩
          case round =>
            obtain ⟨i, rfl, hji, hi, hkx2, hor, HI2, HB2⟩ := hrel
            by_cases hlt2 : i < s.size
            · have hc2 := tl_cons s i hlt2
              by_cases h10 : ((s[i]'hlt2).toNat : Int) = 10
              · have hlti : j < i := by
                  rcases hor with h | h
                  · subst h; omega
                  · exact h
                have HN : Hid (i + runM cmt lGo false (tl s i) = atK s k) := by
                  unfold Hid; rw [← HI2.out, hc2, lead_lf h10]
                clear hc2 HI2 m1 m2 m3 m4 h35
                go_wp2_with fail
                go_roundg (s.size - i)
                case measure => omega
                case rel => exact ⟨i, rfl, by omega, by omega, HN.out, HB2.out⟩
              · have HN : Hid ((i + 1) + runM cmt lGo true (tl s (i + 1)) = atK s k) := by
                  unfold Hid; rw [← HI2.out, hc2, lead_in h10]; omega
                have m5 : (((s[i]'hlt2).toNat : Int) == 10) = false := by rw [beq_eq_false_iff_ne]; exact h10
                clear hc2 HI2 m1 m2 m3 m4 h35 h10
                go_wp2_with fail
                go_roundg (s.size - (i + 1))
                case measure => omega
                case rel => exact ⟨i + 1, by go_num, by omega, by omega, by omega, .inr (by omega), HN.out, HB2.out⟩
            · obtain rfl : i = s.size := by omega
              have HN : Hid (s.size + runM cmt lGo false (tl s s.size) = atK s k) := by
                unfold Hid; rw [← HI2.out, tl_end s _ (Nat.le_refl _), lead_nil, lead_nil]
              have hnl : ¬ (s.size : Int) < (s.size : Int) := by omega
              clear HI2 m1 m2 m3 m4 h35
              go_wp2_with fail
              go_roundg 0
              case measure => omega
              case rel => exact ⟨s.size, rfl, Nat.le_refl _, by omega, HN.out, HB2.out⟩
        · have HE : Hid (j = atK s k) := by unfold Hid; rw [← HA.out, hc, lead_stop hbl' h35]; rfl
          have m6 : (((s[j]'hlt).toNat : Int) == 35) = false := by rw [beq_eq_false_iff_ne]; exact h35
          clear hbl hbl' hc HA n1 n2 n3 n4 h35
          go_wp2
          go_ret
          exact ⟨by rw [← HE.out]; rfl, HB.out⟩
    · obtain rfl : j = s.size := by omega
      have HE : Hid (s.size = atK s k) := by unfold Hid; rw [← HA.out, tl_end s _ (Nat.le_refl _), lead_nil]; rfl
      have hnl : ¬ (s.size : Int) < (s.size : Int) := by omega
      clear HA
      go_wp2
      go_ret
      exact ⟨by rw [← HE.out]; rfl, HB.out⟩
end Go.Proofs.YthlkjfkgdijfdaaGreatDoor
/- Contracts: the document's answer for package token: one token, a word. -/
namespace Go.Proofs.YthlkjfkgdijfdaaGreatDoor
open Go.RowKit

def wordAt (s : ByteArray) (k : Nat) : Nat × Nat × Nat := if keyL ((tl s k).take (wLen (tl s k))) = true then (2, k + wLen (tl s k), 0) else if wLen (tl s k) > 40 then (0, 0, 26) else (1, k + wLen (tl s k), 0)
theorem w_go (s : ByteArray) (j : Nat) (h : j < s.size) (hb : wdN ((s[j]'h).toNat : Int) = true) : wLen (tl s j) = 1 + wLen (tl s (j + 1)) := by
  rw [tl_cons s j h]
  unfold wLen
  rw [runM_go (go := wGo) (by exact hb)]
  rfl
theorem w_stop (s : ByteArray) (j : Nat) (h : j < s.size) (hb : wdN ((s[j]'h).toNat : Int) = false) : wLen (tl s j) = 0 := by
  rw [tl_cons s j h]
  unfold wLen
  rw [runM_stop (go := wGo) (by exact hb)]
theorem w_end (s : ByteArray) : wLen (tl s s.size) = 0 := by
  rw [tl_end s _ (Nat.le_refl _)]; unfold wLen; rw [runM]
theorem ext_tl (s : ByteArray) (k n : Nat) : (s.extract k (k + n)).data.toList = (tl s k).take n := by
  unfold tl
  rw [ByteArray.data_extract, Array.toList_extract, List.extract_eq_take_drop, Nat.add_sub_cancel_left]

set_option maxHeartbeats 4000000 in
set_option maxRecDepth 100000 in
theorem one_word (s : ByteArray) (k : Nat) (w : World) (hs : s.size ≤ 100000) (hk : k < s.size) (hl : letN ((s[k]'hk).toNat : Int) = true) : Calls Tryz.prog 33 #[.string s, .int .i64 k] w fun e w' => e = tri (wordAt s k) ∧ Below w.heap.size w w' := by
  have H0 : Hid ((k + 1) + wLen (tl s (k + 1)) = k + wLen (tl s k)) := by
    unfold Hid; rw [w_go s k hk (by unfold wdN; rw [hl]; rfl)]; omega
  obtain ⟨m, hm⟩ : ∃ m, m = wLen (tl s k) := ⟨_, rfl⟩
  obtain ⟨x, hx⟩ : ∃ x, x = wordAt s k := ⟨_, rfl⟩
  rw [← hx]
  unfold wordAt at hx
  rw [← hm] at H0 hx
  rw [← ext_tl] at hx
  have HX := Lib.hid hx
  clear hx hm
  go_enter Tryz.func33, Tryz.ntmps33
  go_wp2_with fail
  refine (rletter_any _ _).mono ?_
  rintro e w1 ⟨rfl, rfl⟩
  go_wp2_with fail
  go_loopg [7] (s.size + 1) (fun kx v wr => ∃ j : Nat, v = .int .i64 j ∧ k < j ∧ j ≤ s.size ∧ s.size - j ≤ kx ∧ Hid (j + wLen (tl s j) = k + m) ∧ Hid (w = wr))
  case atStart => exact ⟨k + 1, by go_num, by omega, by omega, by omega, H0.out, rfl⟩
  case round =>
    obtain ⟨j, rfl, hkj, hj, hkx, HA, HB⟩ := hrel
    obtain rfl := HB.out
    by_cases hlt : j < s.size
    · cases h1 : letN ((s[j]'hlt).toNat : Int)
      · cases h2 : digN ((s[j]'hlt).toNat : Int)
        · have HE : Hid (j = k + m) := by
            unfold Hid; rw [← HA.out, w_stop s j hlt (by unfold wdN; rw [h1, h2]; rfl)]; rfl
          go_wp2_with fail
          refine (rletter_any _ _).mono ?_
          rintro e w1 ⟨rfl, rfl⟩
          go_wp2_with fail
          refine (rdigit_any _ _).mono ?_
          rintro e w1 ⟨rfl, rfl⟩
          go_wp2_with fail
          refine (rkey_any _ _).mono ?_
          rintro e w2 ⟨rfl, HB2⟩
          have HB3 := Lib.hid HB2
          clear HB2
          cases hkey : keyL (s.extract k j).data.toList
          · by_cases h40 : m > 40
            · have hz : ((j - k : Nat) : Int) > 40 := by have := HE.out; omega
              have HR : Hid (x = (0, 0, 26)) := by
                unfold Hid; rw [HX.out, ← HE.out, hkey, if_neg (by decide), if_pos h40]
              go_wp2_with fail
              refine (rletter_any _ _).mono ?_
              rintro e w3 ⟨rfl, rfl⟩
              go_wp2_with fail
              go_ret3
              exact ⟨tri_eq (a := 0) (b := 0) (c := 26) HR.out, HB3.out⟩
            · have hz : ¬ ((j - k : Nat) : Int) > 40 := by have := HE.out; omega
              have HR : Hid (x = (1, j, 0)) := by
                unfold Hid; rw [HX.out, ← HE.out, hkey, if_neg (by decide), if_neg h40]
              go_wp2_with fail
              refine (rletter_any _ _).mono ?_
              rintro e w3 ⟨rfl, rfl⟩
              go_wp2_with fail
              go_ret3
              exact ⟨tri_eq (a := 1) (b := j) (c := 0) HR.out, HB3.out⟩
          · have HR : Hid (x = (2, j, 0)) := by
              unfold Hid; rw [HX.out, ← HE.out, hkey, if_pos rfl]
            go_wp2_with fail
            go_ret3
            exact ⟨tri_eq (a := 2) (b := j) (c := 0) HR.out, HB3.out⟩
        · have HN : Hid ((j + 1) + wLen (tl s (j + 1)) = k + m) := by
            unfold Hid; rw [← HA.out, w_go s j hlt (by unfold wdN; rw [h1, h2]; rfl)]; omega
          go_wp2_with fail
          refine (rletter_any _ _).mono ?_
          rintro e w1 ⟨rfl, rfl⟩
          go_wp2_with fail
          refine (rdigit_any _ _).mono ?_
          rintro e w1 ⟨rfl, rfl⟩
          go_wp2_with fail
          go_roundg (s.size - (j + 1))
          case measure => omega
          case rel => exact ⟨j + 1, by go_num, by omega, by omega, by omega, HN.out, rfl⟩
      · have HN : Hid ((j + 1) + wLen (tl s (j + 1)) = k + m) := by
          unfold Hid; rw [← HA.out, w_go s j hlt (by unfold wdN; rw [h1]; rfl)]; omega
        go_wp2_with fail
        refine (rletter_any _ _).mono ?_
        rintro e w1 ⟨rfl, rfl⟩
        go_wp2_with fail
        go_roundg (s.size - (j + 1))
        case measure => omega
        case rel => exact ⟨j + 1, by go_num, by omega, by omega, by omega, HN.out, rfl⟩
    · obtain rfl : j = s.size := by omega
      have HE : Hid (s.size = k + m) := by unfold Hid; rw [← HA.out, w_end]; rfl
      have hnl : ¬ (s.size : Int) < (s.size : Int) := by omega
      go_wp2_with fail
      refine (rkey_any _ _).mono ?_
      rintro e w2 ⟨rfl, HB2⟩
      have HB3 := Lib.hid HB2
      clear HB2
      cases hkey : keyL (s.extract k s.size).data.toList
      · by_cases h40 : m > 40
        · have hz : ((s.size - k : Nat) : Int) > 40 := by have := HE.out; omega
          have HR : Hid (x = (0, 0, 26)) := by
            unfold Hid; rw [HX.out, ← HE.out, hkey, if_neg (by decide), if_pos h40]
          go_wp2_with fail
          refine (rletter_any _ _).mono ?_
          rintro e w3 ⟨rfl, rfl⟩
          go_wp2_with fail
          go_ret3
          exact ⟨tri_eq (a := 0) (b := 0) (c := 26) HR.out, HB3.out⟩
        · have hz : ¬ ((s.size - k : Nat) : Int) > 40 := by have := HE.out; omega
          have HR : Hid (x = (1, s.size, 0)) := by
            unfold Hid; rw [HX.out, ← HE.out, hkey, if_neg (by decide), if_neg h40]
          go_wp2_with fail
          refine (rletter_any _ _).mono ?_
          rintro e w3 ⟨rfl, rfl⟩
          go_wp2_with fail
          go_ret3
          exact ⟨tri_eq (a := 1) (b := s.size) (c := 0) HR.out, HB3.out⟩
      · have HR : Hid (x = (2, s.size, 0)) := by
          unfold Hid; rw [HX.out, ← HE.out, hkey, if_pos rfl]
        go_wp2_with fail
        go_ret3
        exact ⟨tri_eq (a := 2) (b := s.size) (c := 0) HR.out, HB3.out⟩
end Go.Proofs.YthlkjfkgdijfdaaGreatDoor
