/- Contracts: the small functions of package token, and how many bytes a machine goes through. -/
import Derived.Test.YtifkjngclkklfaaGreatDoorMGa
import Derived.Test.YtifkjngclkklfaaGreatDoorMGb
namespace Go.Proofs.YtifkjngclkklfaaGreatDoor
open Go.RowKit

set_option maxHeartbeats 1000000 in
theorem letter_any (n : Int) (w : World) : Calls Tryz.prog 102 #[.int .u8 n] w fun e w' => e = .returned (.bool (letN n)) ∧ w = w' := by
  go_enter Tryz.func102, Tryz.ntmps102
  go_wp2
  all_goals
    go_ret
    exact ⟨rb (by simp [letN] <;> omega), rfl⟩
set_option maxHeartbeats 1000000 in
theorem digit_any (n : Int) (w : World) : Calls Tryz.prog 126 #[.int .u8 n] w fun e w' => e = .returned (.bool (digN n)) ∧ w = w' := by
  go_enter Tryz.func126, Tryz.ntmps126
  go_wp2
  all_goals
    go_ret
    exact ⟨rb (by simp [digN] <;> omega), rfl⟩
set_option maxHeartbeats 1000000 in
theorem blank_any (n : Int) (w : World) : Calls Tryz.prog 134 #[.int .u8 n] w fun e w' => e = .returned (.bool (blkN n)) ∧ w = w' := by
  go_enter Tryz.func134, Tryz.ntmps134
  go_wp2
  all_goals
    go_ret
    exact ⟨rb (by simp [blkN] <;> omega), rfl⟩
set_option maxHeartbeats 1000000 in
theorem wordc_any (n : Int) (c : Bool) (w : World) : Calls Tryz.prog 125 #[.int .u8 n] w fun e w' => e = .returned (.bool (wGo c n)) ∧ w = w' := by
  have c1 := letter_any n w
  have c2 := digit_any n w
  unfold wGo wdN
  cases h : letN n
  · rw [h] at c1
    have C1 := Lib.hid c1
    have C2 := Lib.hid c2
    clear c1 c2 h
    go_enter Tryz.func125, Tryz.ntmps125
    go_wp2_with fail
    refine C1.out.mono ?_
    rintro e w1 ⟨rfl, rfl⟩
    go_wp2_with fail
    refine C2.out.mono ?_
    rintro e w1 ⟨rfl, rfl⟩
    go_wp2_with fail
    go_ret
    exact ⟨by simp, rfl⟩
  · rw [h] at c1
    have C1 := Lib.hid c1
    clear c1 c2 h
    go_enter Tryz.func125, Tryz.ntmps125
    go_wp2_with fail
    refine C1.out.mono ?_
    rintro e w1 ⟨rfl, rfl⟩
    go_wp2_with fail
    go_ret
    exact ⟨by simp, rfl⟩

/-- A captured bool, in block g. -/
def Flag (w : World) (g : Nat) (c : Bool) : Prop := RowB w g 4 #[.bool c]
theorem Flag.put {w : World} {g : Nat} {c : Bool} (h : Flag w g c) (d : Bool) : Flag (w.setCell ⟨g, 0, none⟩ (.bool d)) g d := RowB.put h 0 _

set_option maxHeartbeats 2000000 in
theorem leadc_any (n : Int) (g : Nat) (c : Bool) (w : World) (hf : Flag w g c) :
    Calls Tryz.prog 133 #[.int .u8 n, .pointer (some ⟨g, 0, none⟩)] w fun e w' => e = .returned (.bool (lGo c n)) ∧ Flag w' g (cmt c n) ∧ Below g w w' := by
  unfold lGo
  have hc : w.cell? ⟨g, 0, none⟩ = some (.bool c) := RowB.cell hf 0
  have hz : w.frozen? ⟨g, 0, none⟩ = false := RowB.thaw hf 0
  have hlt : g < w.heap.size := RowB.lt hf
  have HFl := Lib.hid hf
  clear hf
  by_cases h10 : n = 10
  · subst h10
    have F1 := Lib.hid (HFl.out.put false)
    have B1 := Lib.hid ((Below.refl g w).setCell (p := ⟨g, 0, none⟩) (Nat.le_refl _) (.bool false))
    have c1 := blank_any 10 (w.setCell ⟨g, 0, none⟩ (.bool false))
    have C1 := Lib.hid c1
    clear c1
    go_enter Tryz.func133, Tryz.ntmps133
    go_wp2_with fail
    refine C1.out.mono ?_
    rintro e w1 ⟨rfl, rfl⟩
    go_wp2_with fail
    go_ret
    exact ⟨by simp [cmt], F1.out, B1.out⟩
  have q1 : (n == 10) = false := by simpa using h10
  by_cases h35 : n = 35
  · subst h35
    have F1 := Lib.hid (HFl.out.put true)
    have B1 := Lib.hid ((Below.refl g w).setCell (p := ⟨g, 0, none⟩) (Nat.le_refl _) (.bool true))
    clear h10 q1
    go_enter Tryz.func133, Tryz.ntmps133
    go_wp2_with fail
    go_ret
    exact ⟨by simp [cmt], F1.out, B1.out⟩
  have q2 : (n == 35) = false := by simpa using h35
  have e1 : cmt c n = c := by simp [cmt, h10, h35]
  rw [e1]
  cases c
  · have c1 := blank_any n w
    have C1 := Lib.hid c1
    clear c1 h10 h35 e1
    go_enter Tryz.func133, Tryz.ntmps133
    go_wp2_with fail
    refine C1.out.mono ?_
    rintro e w1 ⟨rfl, rfl⟩
    go_wp2_with fail
    go_ret
    exact ⟨by simp, HFl.out, Below.refl _ _⟩
  · clear h10 h35 e1
    go_enter Tryz.func133, Tryz.ntmps133
    go_wp2_with fail
    go_ret
    exact ⟨by simp, HFl.out, Below.refl _ _⟩

set_option maxHeartbeats 2000000 in
theorem quotc_any (n : Int) (g : Nat) (c : Bool) (w : World) (hf : Flag w g c) :
    Calls Tryz.prog 143 #[.int .u8 n, .pointer (some ⟨g, 0, none⟩)] w fun e w' => e = .returned (.bool (qGo c n)) ∧ Flag w' g (sls c n) ∧ Below g w w' := by
  unfold qGo
  have hc : w.cell? ⟨g, 0, none⟩ = some (.bool c) := RowB.cell hf 0
  have hz : w.frozen? ⟨g, 0, none⟩ = false := RowB.thaw hf 0
  have hlt : g < w.heap.size := RowB.lt hf
  have HFl := Lib.hid hf
  clear hf
  have F1 := Lib.hid (HFl.out.put (sls c n))
  have B1 := Lib.hid ((Below.refl g w).setCell (p := ⟨g, 0, none⟩) (Nat.le_refl _) (.bool (sls c n)))
  by_cases h92 : n = 92
  · subst h92
    cases c
    all_goals
      go_enter Tryz.func143, Tryz.ntmps143
      go_wp2_with fail
      go_ret
      exact ⟨by simp, F1.out, B1.out⟩
  have q1 : (n == 92) = false := by simpa using h92
  have e1 : sls c n = false := by simp [sls, h92]
  rw [e1] at F1 B1 ⊢
  by_cases h34 : n = 34
  · subst h34
    clear h92 e1 q1
    cases c
    all_goals
      go_enter Tryz.func143, Tryz.ntmps143
      go_wp2_with fail
      go_ret
      exact ⟨by simp, F1.out, B1.out⟩
  · have q2 : (n != 34) = true := by simpa using h34
    have e2 : decide (n ≠ 34) = true := by simpa using h34
    rw [e2]
    clear h92 e1 h34 e2
    cases c
    all_goals
      go_enter Tryz.func143, Tryz.ntmps143
      go_wp2_with fail
      go_ret
      exact ⟨by simp, F1.out, B1.out⟩

/-- How far a machine has gone. -/
def Far (st go : Bool → Int → Bool) (s : ByteArray) (k : Nat) (c : Bool) : Prop := runM st go false s.data.toList = k + runM st go c (s.data.toList.drop k)
theorem Far.first (st go : Bool → Int → Bool) (s : ByteArray) : Far st go s 0 false := by unfold Far; simp
theorem drop_cons' (T : ByteArray) (k : Nat) (h : k < T.size) : T.data.toList.drop k = T[k] :: T.data.toList.drop (k + 1) := by
  rw [List.drop_eq_getElem_cons (by simpa using h)]; rfl
theorem Far.next {st go : Bool → Int → Bool} {s : ByteArray} {k : Nat} {c : Bool} (h : Far st go s k c) (hk : k < s.size) (hg : go c s[k].toNat = true) : Far st go s (k + 1) (st c s[k].toNat) := by
  unfold Far at h ⊢
  rw [h, drop_cons' s k hk, runM_go hg]
  omega
theorem Far.stop {st go : Bool → Int → Bool} {s : ByteArray} {k : Nat} {c : Bool} (h : Far st go s k c) (hk : k < s.size) (hg : go c s[k].toNat = false) : runM st go false s.data.toList = k := by
  unfold Far at h
  rw [h, drop_cons' s k hk, runM_stop hg]
  rfl
theorem Far.done {st go : Bool → Int → Bool} {s : ByteArray} {c : Bool} (h : Far st go s s.size c) : runM st go false s.data.toList = s.size := by
  unfold Far at h
  rw [h, List.drop_of_length_le (by rw [len_list]; exact Nat.le_refl _)]
  rfl

set_option maxHeartbeats 4000000 in
theorem prefix_word (s : ByteArray) (hs : s.size ≤ 140737488351232) (w : World) :
    Calls Tryz.prog 124 #[.string s, .func (.func 125) #[] #[]] w fun e w' => e = .returned (.int .i64 (runM wSt wGo false s.data.toList)) ∧ w = w' := by
  go_enter Tryz.func124, Tryz.ntmps124
  go_wp2_with fail
  go_loopg [8] s.size (fun kx x wr => ∃ (k : Nat) (c : Bool), x = .int .i64 k ∧ k ≤ s.size ∧ s.size - k ≤ kx ∧ Hid (Far wSt wGo s k c) ∧ Hid (w = wr))
  case atStart => exact ⟨0, false, rfl, by omega, by omega, Far.first _ _ s, rfl⟩
  case round =>
    obtain ⟨k, c, rfl, hk, hkx, HF, HW⟩ := hrel
    obtain rfl := HW.out
    by_cases hlt : k < s.size
    · have hlz : (k : Int) < (s.size : Int) := by omega
      have cc := wordc_any (s[k]'hlt).toNat c w
      cases hg : wGo c (s[k]'hlt).toNat
      · rw [hg] at cc
        have C := Lib.hid cc
        have HF2 := Lib.hid (HF.out.stop hlt hg)
        clear cc hg
        go_wp2_with fail
        refine C.out.mono ?_
        rintro e w1 ⟨rfl, rfl⟩
        go_wp2_with fail
        go_ret
        exact ⟨ri (congrArg (fun n : Nat => (n : Int)) HF2.out).symm, rfl⟩
      · rw [hg] at cc
        have C := Lib.hid cc
        have HN := Lib.hid (HF.out.next hlt hg)
        clear cc hg
        go_wp2_with fail
        refine C.out.mono ?_
        rintro e w1 ⟨rfl, rfl⟩
        go_wp2_with fail
        go_roundg (s.size - (k + 1))
        case measure => omega
        case rel => exact ⟨k + 1, _, by go_num, by omega, by omega, HN.out, rfl⟩
    · obtain rfl : k = s.size := by omega
      have hlz : ¬ (s.size : Int) < (s.size : Int) := by omega
      have HF2 := Lib.hid HF.out.done
      clear hlt
      go_wp2_with fail
      go_ret
      exact ⟨ri (congrArg (fun n : Nat => (n : Int)) HF2.out).symm, rfl⟩

set_option maxHeartbeats 4000000 in
theorem prefix_lead (s : ByteArray) (hs : s.size ≤ 100000) (g : Nat) (w : World) (hf : Flag w g false) :
    Calls Tryz.prog 124 #[.string s, .func (.func 133) #[] #[.pointer (some ⟨g, 0, none⟩)]] w fun e w' => e = .returned (.int .i64 (runM cmt lGo false s.data.toList)) ∧ Below g w w' := by
  have HFl := Lib.hid hf
  clear hf
  go_enter Tryz.func124, Tryz.ntmps124
  go_wp2_with fail
  go_loopg [8] s.size (fun kx x wr => ∃ (k : Nat) (c : Bool), x = .int .i64 k ∧ k ≤ s.size ∧ s.size - k ≤ kx ∧ Hid (Far cmt lGo s k c) ∧ Hid (Flag wr g c) ∧ Hid (Below g w wr))
  case atStart => exact ⟨0, false, rfl, by omega, by omega, Far.first _ _ s, HFl.out, Below.refl _ _⟩
  case round =>
    obtain ⟨k, c, rfl, hk, hkx, HF, HC, HB⟩ := hrel
    by_cases hlt : k < s.size
    · have hlz : (k : Int) < (s.size : Int) := by omega
      have cc := leadc_any (s[k]'hlt).toNat g c wr HC.out
      cases hg : lGo c (s[k]'hlt).toNat
      · rw [hg] at cc
        have C := Lib.hid cc
        have HF2 := Lib.hid (HF.out.stop hlt hg)
        clear cc hg
        go_wp2_with fail
        refine C.out.mono ?_
        rintro e w1 ⟨rfl, hfl, hb⟩
        have HC1 := Lib.hid hfl
        have HB1 := Lib.hid (HB.out.trans hb)
        clear hfl hb
        go_wp2_with fail
        go_ret
        exact ⟨ri (congrArg (fun n : Nat => (n : Int)) HF2.out).symm, HB1.out⟩
      · rw [hg] at cc
        have C := Lib.hid cc
        have HN := Lib.hid (HF.out.next hlt hg)
        clear cc hg
        go_wp2_with fail
        refine C.out.mono ?_
        rintro e w1 ⟨rfl, hfl, hb⟩
        have HC1 := Lib.hid hfl
        have HB1 := Lib.hid (HB.out.trans hb)
        clear hfl hb
        go_wp2_with fail
        go_roundg (s.size - (k + 1))
        case measure => omega
        case rel => exact ⟨k + 1, _, by go_num, by omega, by omega, HN.out, HC1.out, HB1.out⟩
    · obtain rfl : k = s.size := by omega
      have hlz : ¬ (s.size : Int) < (s.size : Int) := by omega
      have HF2 := Lib.hid HF.out.done
      clear hlt
      go_wp2_with fail
      go_ret
      exact ⟨ri (congrArg (fun n : Nat => (n : Int)) HF2.out).symm, HB.out⟩

set_option maxHeartbeats 4000000 in
theorem prefix_quot (s : ByteArray) (hs : s.size ≤ 100000) (g : Nat) (w : World) (hf : Flag w g false) :
    Calls Tryz.prog 124 #[.string s, .func (.func 143) #[] #[.pointer (some ⟨g, 0, none⟩)]] w fun e w' => e = .returned (.int .i64 (runM sls qGo false s.data.toList)) ∧ Below g w w' := by
  have HFl := Lib.hid hf
  clear hf
  go_enter Tryz.func124, Tryz.ntmps124
  go_wp2_with fail
  go_loopg [8] s.size (fun kx x wr => ∃ (k : Nat) (c : Bool), x = .int .i64 k ∧ k ≤ s.size ∧ s.size - k ≤ kx ∧ Hid (Far sls qGo s k c) ∧ Hid (Flag wr g c) ∧ Hid (Below g w wr))
  case atStart => exact ⟨0, false, rfl, by omega, by omega, Far.first _ _ s, HFl.out, Below.refl _ _⟩
  case round =>
    obtain ⟨k, c, rfl, hk, hkx, HF, HC, HB⟩ := hrel
    by_cases hlt : k < s.size
    · have hlz : (k : Int) < (s.size : Int) := by omega
      have cc := quotc_any (s[k]'hlt).toNat g c wr HC.out
      cases hg : qGo c (s[k]'hlt).toNat
      · rw [hg] at cc
        have C := Lib.hid cc
        have HF2 := Lib.hid (HF.out.stop hlt hg)
        clear cc hg
        go_wp2_with fail
        refine C.out.mono ?_
        rintro e w1 ⟨rfl, hfl, hb⟩
        have HC1 := Lib.hid hfl
        have HB1 := Lib.hid (HB.out.trans hb)
        clear hfl hb
        go_wp2_with fail
        go_ret
        exact ⟨ri (congrArg (fun n : Nat => (n : Int)) HF2.out).symm, HB1.out⟩
      · rw [hg] at cc
        have C := Lib.hid cc
        have HN := Lib.hid (HF.out.next hlt hg)
        clear cc hg
        go_wp2_with fail
        refine C.out.mono ?_
        rintro e w1 ⟨rfl, hfl, hb⟩
        have HC1 := Lib.hid hfl
        have HB1 := Lib.hid (HB.out.trans hb)
        clear hfl hb
        go_wp2_with fail
        go_roundg (s.size - (k + 1))
        case measure => omega
        case rel => exact ⟨k + 1, _, by go_num, by omega, by omega, HN.out, HC1.out, HB1.out⟩
    · obtain rfl : k = s.size := by omega
      have hlz : ¬ (s.size : Int) < (s.size : Int) := by omega
      have HF2 := Lib.hid HF.out.done
      clear hlt
      go_wp2_with fail
      go_ret
      exact ⟨ri (congrArg (fun n : Nat => (n : Int)) HF2.out).symm, HB.out⟩

set_option maxHeartbeats 1000000 in
theorem wlen_any (s : ByteArray) (hs : s.size ≤ 140737488351232) (w : World) : Calls Tryz.prog 103 #[.string s] w fun e w' => e = .returned (.int .i64 (wLen s.data.toList)) ∧ w = w' := by
  have C := Lib.hid (prefix_word s hs w)
  go_enter Tryz.func103, Tryz.ntmps103
  go_wp2_with fail
  refine C.out.mono ?_
  rintro e w1 ⟨rfl, rfl⟩
  go_wp2_with fail
  go_ret
  exact ⟨rfl, rfl⟩
set_option maxHeartbeats 1000000 in
theorem llen_any (s : ByteArray) (hs : s.size ≤ 100000) (w : World) : Calls Tryz.prog 118 #[.string s] w fun e w' => e = .returned (.int .i64 (lLen s.data.toList)) ∧ Below w.heap.size w w' := by
  have hmf : ∀ (fn : Fn) (first cap : Array Value) (w : World), (Instr.makeFunc fn first cap).run Tryz.prog w = .ok (.func fn first cap) w := fun _ _ _ _ => rfl
  have C := Lib.hid (prefix_lead s hs w.heap.size (w.alloc (.cells #[.bool false] 4)) (RowB.new w 4 _))
  go_enter Tryz.func118, Tryz.ntmps118
  go_wp2_with fail
  refine C.out.mono ?_
  rintro e w1 ⟨rfl, hb⟩
  have HB := Lib.hid (((Below.refl _ w).alloc (Nat.le_refl _) _).trans hb)
  clear hb
  go_wp2_with fail
  go_ret
  exact ⟨rfl, HB.out⟩
end Go.Proofs.YtifkjngclkklfaaGreatDoor
