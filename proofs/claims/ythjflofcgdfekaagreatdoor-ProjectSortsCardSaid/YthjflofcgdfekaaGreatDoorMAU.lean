import Derived.Test.YthjflofcgdfekaaGreatDoorMAT
import Derived.Test.YthjflofcgdfekaaGreatDoorMAS
import Derived.IntWalk
import Derived.StillTailTactics
import Derived.BigRegion
import Derived.RegionTactic
import Derived.ChangeAlike
namespace Go.Proofs.YthjflofcgdfekaaGreatDoor
open Go.RowKit
theorem qLen_le (l : List UInt8) : qLen l ≤ l.length := runM_le _ _ _ _
set_option maxHeartbeats 1000000 in
theorem quoted_any (s : ByteArray) (hs : s.size ≤ 100000) (h0 : 0 < s.size) (w : World) : Calls Tryz.prog 217 #[.string s] w fun e w' => e = tri (quotL s.data.toList) ∧ Below w.heap.size w w' := by
  have hmf : ∀ (fn : Fn) (first cap : Array Value) (w : World), (Instr.makeFunc fn first cap).run Tryz.prog w = .ok (.func fn first cap) w := fun _ _ _ _ => rfl
  have c1 := prefix_quot (s.extract 1 s.size) (by rw [ByteArray.size_extract]; omega) w.heap.size (w.alloc (.cells #[.bool false] 4)) (RowB.new w 4 _)
  have hql := qLen_le (s.data.toList.drop 1)
  rw [List.length_drop, len_list] at hql
  have e1 : (s.extract 1 s.size).data.toList = s.data.toList.drop 1 := ext_end s 1
  rw [e1] at c1
  obtain ⟨x, hx⟩ : ∃ x, x = quotL s.data.toList := ⟨_, rfl⟩
  rw [← hx]
  unfold quotL qLong at hx
  rw [len_list] at hx
  obtain ⟨q, hq⟩ : ∃ q, q = qLen (s.data.toList.drop 1) := ⟨_, rfl⟩
  rw [← hq] at hx hql
  rw [show runM sls qGo false (s.data.toList.drop 1) = q from hq.symm] at c1
  obtain ⟨n, hn⟩ : ∃ n, n = min (1 + q + 1) s.size := ⟨_, rfl⟩
  rw [← hn] at hx
  have c2 := fun w => unquote_any (s.extract 0 n) w (by rw [ByteArray.size_extract]; omega)
  rw [ext_pre'] at c2
  have hns : n ≤ s.size := by omega
  have hz0 : (1 : Int) ≤ (s.size : Int) := by omega
  have hnz : (n : Int) ≤ (s.size : Int) := by omega
  have EN : min (1 + (q : Int) + 1) (s.size : Int) = (n : Int) := by omega
  have C1 := Lib.hid c1
  have C2 := Lib.hid c2
  have HX := Lib.hid hx
  clear c1 c2 hx hq e1 hn
  go_enter Tryz.func217, Tryz.ntmps217
  go_wp2_with fail
  refine C1.out.mono ?_
  rintro e w1 ⟨rfl, hb⟩
  have HB := Lib.hid (((Below.refl _ w).alloc (Nat.le_refl _) _).trans hb)
  clear hb
  go_wp2_with fail
  refine (C2.out _).mono ?_
  rintro e w2 ⟨he, hb⟩
  have HB2 := Lib.hid (HB.out.trans (hb.mono HB.out.size))
  clear hb
  unfold uq at he
  have HX2 := HX.out
  cases hu : unq (s.data.toList.take n) with
  | none =>
    rw [hu] at he HX2
    rw [if_neg (by decide)] at HX2
    have HX3 := Lib.hid HX2
    simp only at he
    subst he
    clear hu HX2
    go_wp2_with fail
    go_ret3
    exact ⟨tri_eq (a := 0) (b := 0) (c := 22) HX3.out, HB2.out⟩
  | some o =>
    rw [hu] at he HX2
    rw [if_pos (show (some o).isSome = true from rfl)] at HX2
    have HX3 := Lib.hid HX2
    simp only at he
    subst he
    clear hu HX2
    go_wp2_with fail
    go_ret3
    exact ⟨tri_eq (a := 4) (b := n) (c := 0) HX3.out, HB2.out⟩
set_option maxHeartbeats 1000000 in
theorem sign_any (s : ByteArray) (_hs : s.size ≤ 100000) (h0 : 0 < s.size) (w : World) : Calls Tryz.prog 218 #[.string s] w fun e w' => e = tri (signL s.data.toList) ∧ w = w' := by
  have c1 := sh_strings_HasPrefix s ⟨#[61, 61]⟩ w
  have e1 : (ByteArray.mk #[61, 61]).data.toList = [61, 61] := rfl
  rw [e1] at c1
  have c2 := sh_strings_IndexByte ⟨#[40, 41, 123, 125, 44, 59, 58, 46, 61, 43, 45, 42, 60]⟩ (s[0]'h0).toNat w
  have e2 : (ByteArray.mk #[40, 41, 123, 125, 44, 59, 58, 46, 61, 43, 45, 42, 60]).data.toList = signs := rfl
  have e3 : ((s[0]'h0).toNat : Int).toNat.toUInt8 = s.data.toList.getD 0 0 := by
    rw [Int.toNat_natCast]
    have : s.data.toList.getD 0 0 = s[0]'h0 := by
      rw [List.getD_eq_getElem?_getD, List.getElem?_eq_getElem (by simpa using h0)]
      rfl
    rw [this]
    simp
  rw [e2, e3] at c2
  obtain ⟨x, hx⟩ : ∃ x, x = signL s.data.toList := ⟨_, rfl⟩
  rw [← hx]
  unfold signL at hx
  obtain ⟨k, hk⟩ : ∃ k, k = Lib.indexByte signs (s.data.toList.getD 0 0) := ⟨_, rfl⟩
  rw [← hk] at c2 hx
  cases hp : Lib.hasPrefix s.data.toList [61, 61]
  · rw [hp] at c1 hx
    rw [if_neg (by decide)] at hx
    have C1 := Lib.hid c1
    have C2 := Lib.hid c2
    by_cases hk0 : 0 ≤ k
    · have hz : k ≥ 0 := hk0
      rw [if_pos hk0] at hx
      have HX := Lib.hid hx
      clear c1 c2 hx hk hp e1 e2 e3 hk0
      go_enter Tryz.func218, Tryz.ntmps218
      go_wp2_with fail
      refine C1.out.mono ?_
      rintro e w1 ⟨rfl, rfl⟩
      go_wp2_with fail
      refine C2.out.mono ?_
      rintro e w1 ⟨rfl, rfl⟩
      go_wp2_with fail
      go_ret3
      exact ⟨tri_eq (a := 5) (b := 1) (c := 0) HX.out, rfl⟩
    · have hz : ¬ k ≥ 0 := hk0
      rw [if_neg hk0] at hx
      have HX := Lib.hid hx
      clear c1 c2 hx hk hp e1 e2 e3 hk0
      go_enter Tryz.func218, Tryz.ntmps218
      go_wp2_with fail
      refine C1.out.mono ?_
      rintro e w1 ⟨rfl, rfl⟩
      go_wp2_with fail
      refine C2.out.mono ?_
      rintro e w1 ⟨rfl, rfl⟩
      go_wp2_with fail
      go_ret3
      exact ⟨tri_eq (a := 0) (b := 0) (c := 21) HX.out, rfl⟩
  · rw [hp] at c1 hx
    rw [if_pos rfl] at hx
    have C1 := Lib.hid c1
    have HX := Lib.hid hx
    clear c1 c2 hx hk hp e1 e2 e3
    go_enter Tryz.func218, Tryz.ntmps218
    go_wp2_with fail
    refine C1.out.mono ?_
    rintro e w1 ⟨rfl, rfl⟩
    go_wp2_with fail
    go_ret3
    exact ⟨tri_eq (a := 5) (b := 2) (c := 0) HX.out, rfl⟩
def firstL (l : List UInt8) : Nat × Nat × Nat :=
  if l = [] then (0, 0, 0) else if letN (l.getD 0 0).toNat = true then wordL l else if digN (l.getD 0 0).toNat = true then numL l else if (l.getD 0 0).toNat = 34 then quotL l else signL l
theorem head_of (s : ByteArray) (h0 : 0 < s.size) : (s.data.toList.getD 0 0).toNat = (s[0]'h0).toNat := (gb_of s 0 h0).symm
set_option maxHeartbeats 1000000 in
theorem first_any (s : ByteArray) (hs : s.size ≤ 100000) (w : World) (hE : Errs w) : Calls Tryz.prog 167 #[.string s] w fun e w' => e = tri (firstL s.data.toList) ∧ Below w.heap.size w w' := by
  obtain ⟨x, hx⟩ : ∃ x, x = firstL s.data.toList := ⟨_, rfl⟩
  rw [← hx]
  unfold firstL at hx
  by_cases h0 : 0 < s.size
  · have hne : s.data.toList ≠ [] := by
      intro e
      have := len_list s
      rw [e] at this
      simp at this
      omega
    rw [if_neg hne, head_of s h0] at hx
    have hnt : s.toList ≠ [] := by rw [ByteArray.toList_eq]; exact hne
    have hnt2 : (s.toList == []) = false := by simpa using hnt
    have hnt3 : s.toList.isEmpty = false := by simpa using hnt
    have c1 := fun w => letter_any (s[0]'h0).toNat w
    cases h1 : letN (s[0]'h0).toNat
    · rw [h1] at c1 hx
      rw [if_neg (by decide)] at hx
      have c2 := fun w => digit_any (s[0]'h0).toNat w
      cases h2 : digN (s[0]'h0).toNat
      · rw [h2] at c2 hx
        rw [if_neg (by decide)] at hx
        by_cases h3 : (s[0]'h0).toNat = 34
        · rw [if_pos h3] at hx
          have q : (((s[0]'h0).toNat : Int) == 34) = true := by simp; omega
          have C1 := Lib.hid c1
          have C2 := Lib.hid c2
          have C3 := Lib.hid (quoted_any s hs h0 w)
          have HX := Lib.hid hx
          clear c1 c2 hx h1 h2 h3 hE hne
          go_enter Tryz.func167, Tryz.ntmps167
          go_wp2_with fail
          refine (C1.out _).mono ?_
          rintro e w1 ⟨rfl, rfl⟩
          go_wp2_with fail
          refine (C2.out _).mono ?_
          rintro e w1 ⟨rfl, rfl⟩
          go_wp2_with fail
          refine C3.out.mono ?_
          rintro e w1 ⟨he, hb⟩
          rw [← HX.out] at he
          unfold tri at he
          subst he
          have HB := Lib.hid hb
          clear hb
          go_wp2_with fail
          go_ret3
          exact ⟨rfl, HB.out⟩
        · rw [if_neg h3] at hx
          have q : (((s[0]'h0).toNat : Int) == 34) = false := by simp; omega
          have C1 := Lib.hid c1
          have C2 := Lib.hid c2
          have C3 := Lib.hid (sign_any s hs h0 w)
          have HX := Lib.hid hx
          clear c1 c2 hx h1 h2 h3 hE hne
          go_enter Tryz.func167, Tryz.ntmps167
          go_wp2_with fail
          refine (C1.out _).mono ?_
          rintro e w1 ⟨rfl, rfl⟩
          go_wp2_with fail
          refine (C2.out _).mono ?_
          rintro e w1 ⟨rfl, rfl⟩
          go_wp2_with fail
          refine C3.out.mono ?_
          rintro e w1 ⟨he, rfl⟩
          rw [← HX.out] at he
          unfold tri at he
          subst he
          go_wp2_with fail
          go_ret3
          exact ⟨rfl, Below.refl _ _⟩
      · rw [h2] at c2 hx
        rw [if_pos rfl] at hx
        have C1 := Lib.hid c1
        have C2 := Lib.hid c2
        have C3 := Lib.hid (number_any s hs w hE)
        have HX := Lib.hid hx
        clear c1 c2 hx h1 h2 hE hne
        go_enter Tryz.func167, Tryz.ntmps167
        go_wp2_with fail
        refine (C1.out _).mono ?_
        rintro e w1 ⟨rfl, rfl⟩
        go_wp2_with fail
        refine (C2.out _).mono ?_
        rintro e w1 ⟨rfl, rfl⟩
        go_wp2_with fail
        refine C3.out.mono ?_
        rintro e w1 ⟨he, hb⟩
        rw [← HX.out] at he
        unfold tri at he
        subst he
        have HB := Lib.hid hb
        clear hb
        go_wp2_with fail
        go_ret3
        exact ⟨rfl, HB.out⟩
    · rw [h1] at c1 hx
      rw [if_pos rfl] at hx
      have C1 := Lib.hid c1
      have C3 := Lib.hid (word_any s hs w)
      have HX := Lib.hid hx
      clear c1 hx h1 hE hne
      go_enter Tryz.func167, Tryz.ntmps167
      go_wp2_with fail
      refine (C1.out _).mono ?_
      rintro e w1 ⟨rfl, rfl⟩
      go_wp2_with fail
      refine C3.out.mono ?_
      rintro e w1 ⟨he, rfl⟩
      rw [← HX.out] at he
      unfold tri at he
      subst he
      go_wp2_with fail
      go_ret3
      exact ⟨rfl, Below.refl _ _⟩
  · have hl : s.data.toList = [] := List.eq_nil_of_length_eq_zero (by rw [len_list]; omega)
    rw [if_pos hl] at hx
    have hnt : s.toList = [] := by rw [ByteArray.toList_eq]; exact hl
    have HX := Lib.hid hx
    clear hl hx h0 hE
    go_enter Tryz.func167, Tryz.ntmps167
    go_wp2_with fail
    go_ret3
    exact ⟨tri_eq (a := 0) (b := 0) (c := 0) HX.out, Below.refl _ _⟩
end Go.Proofs.YthjflofcgdfekaaGreatDoor
namespace Go.Proofs.YthjflofcgdfekaaGreatDoor
open Go.RowKit
theorem step_below {w w1 w2 : World} (h : Below w.heap.size w w1) (h' : Below w1.heap.size w1 w2) : Below w.heap.size w w2 := h.trans (h'.mono h.size)
end Go.Proofs.YthjflofcgdfekaaGreatDoor
namespace Go.Proofs.YthjflofcgdfekaaGreatDoor
open Go.RowKit
def atK (s : ByteArray) (k : Nat) : Nat := k + lLen (tl s k)
theorem lLen_le (l : List UInt8) : lLen l ≤ l.length := runM_le _ _ _ _
theorem atK_le (s : ByteArray) (k : Nat) (h : k ≤ s.size) : k ≤ atK s k ∧ atK s k ≤ s.size := by
  have := lLen_le (tl s k)
  rw [tl_len] at this
  unfold atK
  omega
abbrev tokV (kind at_ : Int) (lead text : ByteArray) : Value := .agg #[.int .i64 kind, .int .i64 at_, .string lead, .string text]
def nextE (s : ByteArray) (k : Nat) : Ending :=
  if (firstL (tl s (atK s k))).2.2 = 0 then .returned (.tuple #[tokV (firstL (tl s (atK s k))).1 (atK s k) (s.extract k (atK s k)) (s.extract (atK s k) (atK s k + (firstL (tl s (atK s k))).2.1)), .int .i64 0])
  else .returned (.tuple #[tokV 0 (atK s k) ⟨#[]⟩ ⟨#[]⟩, .int .i64 (firstL (tl s (atK s k))).2.2])
set_option maxHeartbeats 2000000 in
theorem next_bad (s : ByteArray) (k : Nat) (hs : s.size ≤ 100000) (hk : k ≤ s.size) (w : World) (hE : Errs w) (he : (firstL (tl s (atK s k))).2.2 ≠ 0) :
    Calls Tryz.prog 134 #[.string s, .int .i64 k] w fun e w' => e = nextE s k ∧ Below w.heap.size w w' := by
  have c1 := fun w => llen_any (s.extract k s.size) (by rw [ByteArray.size_extract]; omega) w
  rw [ext_end] at c1
  obtain ⟨ha, hb⟩ := atK_le s k hk
  have e1 : atK s k = k + lLen (tl s k) := rfl
  have c2 := fun w hE => first_any (s.extract (atK s k) s.size) (by rw [ByteArray.size_extract]; omega) w hE
  rw [ext_end] at c2
  have HN : Hid (nextE s k = .returned (.tuple #[tokV 0 (atK s k) ⟨#[]⟩ ⟨#[]⟩, .int .i64 (firstL (tl s (atK s k))).2.2])) := by
    show _ = _
    unfold nextE
    rw [if_neg he]
  obtain ⟨f, hf⟩ : ∃ f, f = firstL (tl s (atK s k)) := ⟨_, rfl⟩
  rw [← hf] at c2 HN he
  obtain ⟨x, y, z⟩ := f
  obtain ⟨a, haa⟩ : ∃ a, a = atK s k := ⟨_, rfl⟩
  obtain ⟨m, hm⟩ : ∃ m, m = lLen (tl s k) := ⟨_, rfl⟩
  rw [← haa] at c2 HN ha hb e1
  rw [← hm] at c1 e1
  unfold tri at c2
  simp only at c2 HN he
  have hkz : (k : Int) ≤ (s.size : Int) := by omega
  have haz : (a : Int) ≤ (s.size : Int) := by omega
  have EA : (k : Int) + (m : Int) = (a : Int) := by omega
  have hz : ((z : Int) != 0) = true := by simp; omega
  have C1 := Lib.hid c1
  have C2 := Lib.hid c2
  have HE := Lib.hid hE
  clear c1 c2 hf haa hm e1 hE he
  go_enter Tryz.func134, Tryz.ntmps134
  go_wp2_with fail
  refine (C1.out _).mono ?_
  rintro e w1 ⟨rfl, hb1⟩
  have R0 := Lib.hid (RowB.new w 83 #[.int .i64 0, .int .i64 0, .string ⟨#[]⟩, .string ⟨#[]⟩])
  have R1 := Lib.hid (R0.out.below hb1 (by simp))
  have HB0 := Lib.hid ((Below.refl w.heap.size w).alloc (Nat.le_refl _) (.cells #[.int .i64 0, .int .i64 0, .string ⟨#[]⟩, .string ⟨#[]⟩] 83))
  have HB1 := Lib.hid (HB0.out.trans (hb1.mono HB0.out.size))
  clear hb1
  go_wp2_with fail
  refine (C2.out _ (HE.out.below HB1.out)).mono ?_
  rintro e w2 ⟨rfl, hb2⟩
  have R2 := Lib.hid (R1.out.below hb2 R1.out.lt)
  have HB2 := Lib.hid (step_below HB1.out hb2)
  obtain ⟨q0, q1, q2, q3⟩ := (⟨R2.out.cell 0, R2.out.cell 1, R2.out.cell 2, R2.out.cell 3⟩ : w2.cell? ⟨w.heap.size, 0, none⟩ = some (.int .i64 0) ∧ w2.cell? ⟨w.heap.size, 1, none⟩ = some (.int .i64 0) ∧ w2.cell? ⟨w.heap.size, 2, none⟩ = some (.string ⟨#[]⟩) ∧ w2.cell? ⟨w.heap.size, 3, none⟩ = some (.string ⟨#[]⟩))
  have hfz := R2.out.thaw
  have hlt := R2.out.lt
  clear hb2
  go_wp2_with fail
  refine bodyPost_ret (v := .tuple #[tokV 0 a ⟨#[]⟩ ⟨#[]⟩, .int .i64 z]) (by simp [results, go_sem, *]) rfl ⟨HN.out.symm, ?_⟩
  exact ((((HB2.out.setCell (p := ⟨w.heap.size, 0, none⟩) (Nat.le_refl _) _).setCell (p := ⟨w.heap.size, 1, none⟩) (Nat.le_refl _) _).setCell (p := ⟨w.heap.size, 2, none⟩) (Nat.le_refl _) _).setCell (p := ⟨w.heap.size, 3, none⟩) (Nat.le_refl _) _)
theorem first_le (l : List UInt8) : (firstL l).2.1 ≤ l.length := by
  unfold firstL
  by_cases h : l = []
  · rw [if_pos h]; simp
  have h0 := len_pos h
  rw [if_neg h]
  have hw := wLen_le l
  split
  · unfold wordL
    split
    · exact hw
    · split
      · simp
      · exact hw
  · split
    · unfold numL
      split
      · exact hw
      · simp
    · split
      · unfold quotL
        split
        · show qLong l ≤ _
          unfold qLong
          omega
        · simp
      · unfold signL
        split
        · rename_i hp
          have : [61, 61].length ≤ l.length := (List.isPrefixOf_iff_prefix.1 hp).length_le
          exact this
        · split
          · exact h0
          · simp
set_option maxHeartbeats 4000000 in
theorem next_ok (s : ByteArray) (k : Nat) (hs : s.size ≤ 100000) (hk : k ≤ s.size) (w : World) (hE : Errs w) (he : (firstL (tl s (atK s k))).2.2 = 0) :
    Calls Tryz.prog 134 #[.string s, .int .i64 k] w fun e w' => e = nextE s k ∧ Below w.heap.size w w' := by
  have c1 := fun w => llen_any (s.extract k s.size) (by rw [ByteArray.size_extract]; omega) w
  rw [ext_end] at c1
  obtain ⟨ha, hb⟩ := atK_le s k hk
  have e1 : atK s k = k + lLen (tl s k) := rfl
  have c2 := fun w hE => first_any (s.extract (atK s k) s.size) (by rw [ByteArray.size_extract]; omega) w hE
  rw [ext_end] at c2
  have hfl := first_le (tl s (atK s k))
  rw [tl_len] at hfl
  have HN : Hid (nextE s k = .returned (.tuple #[tokV (firstL (tl s (atK s k))).1 (atK s k) (s.extract k (atK s k)) (s.extract (atK s k) (atK s k + (firstL (tl s (atK s k))).2.1)), .int .i64 0])) := by
    show _ = _
    unfold nextE
    rw [if_pos he]
  obtain ⟨f, hf⟩ : ∃ f, f = firstL (tl s (atK s k)) := ⟨_, rfl⟩
  rw [← hf] at c2 HN he hfl
  obtain ⟨x, y, z⟩ := f
  obtain ⟨a, haa⟩ : ∃ a, a = atK s k := ⟨_, rfl⟩
  obtain ⟨m, hm⟩ : ∃ m, m = lLen (tl s k) := ⟨_, rfl⟩
  rw [← haa] at c2 HN ha hb e1 hfl
  rw [← hm] at c1 e1
  unfold tri at c2
  simp only at c2 HN he hfl
  subst he
  obtain ⟨b, hbb⟩ : ∃ b, b = a + y := ⟨_, rfl⟩
  rw [← hbb] at HN
  have hkz : (k : Int) ≤ (s.size : Int) := by omega
  have haz : (a : Int) ≤ (s.size : Int) := by omega
  have hkaz : (k : Int) ≤ (a : Int) := by omega
  have habz : (a : Int) ≤ (b : Int) := by omega
  have hbz : (b : Int) ≤ (s.size : Int) := by omega
  have EA : (k : Int) + (m : Int) = (a : Int) := by omega
  have EB : (a : Int) + (y : Int) = (b : Int) := by omega
  have C1 := Lib.hid c1
  have C2 := Lib.hid c2
  have HE := Lib.hid hE
  clear c1 c2 hf haa hm e1 hE hfl hbb
  go_enter Tryz.func134, Tryz.ntmps134
  go_wp2_with fail
  refine (C1.out _).mono ?_
  rintro e w1 ⟨rfl, hb1⟩
  have R0 := Lib.hid (RowB.new w 83 #[.int .i64 0, .int .i64 0, .string ⟨#[]⟩, .string ⟨#[]⟩])
  have R1 := Lib.hid (R0.out.below hb1 (by simp))
  have HB0 := Lib.hid ((Below.refl w.heap.size w).alloc (Nat.le_refl _) (.cells #[.int .i64 0, .int .i64 0, .string ⟨#[]⟩, .string ⟨#[]⟩] 83))
  have HB1 := Lib.hid (HB0.out.trans (hb1.mono HB0.out.size))
  clear hb1
  go_wp2_with fail
  refine (C2.out _ (HE.out.below HB1.out)).mono ?_
  rintro e w2 ⟨rfl, hb2⟩
  have R2 := Lib.hid (R1.out.below hb2 R1.out.lt)
  have HB2 := Lib.hid (step_below HB1.out hb2)
  obtain ⟨q0, q1, q2, q3⟩ := (⟨R2.out.cell 0, R2.out.cell 1, R2.out.cell 2, R2.out.cell 3⟩ : w2.cell? ⟨w.heap.size, 0, none⟩ = some (.int .i64 0) ∧ w2.cell? ⟨w.heap.size, 1, none⟩ = some (.int .i64 0) ∧ w2.cell? ⟨w.heap.size, 2, none⟩ = some (.string ⟨#[]⟩) ∧ w2.cell? ⟨w.heap.size, 3, none⟩ = some (.string ⟨#[]⟩))
  have hfz := R2.out.thaw
  have hlt := R2.out.lt
  have WB : IntKind.i64.wrap (b : Int) = (b : Int) := IntWalk.i64_in _ (by omega)
  clear hb2
  go_wp2_with fail
  go_region
  all_goals
    go_wp2_with fail
    refine bodyPost_ret (v := .tuple #[tokV x a (s.extract k a) (s.extract a b), .int .i64 0]) (by simp [results, go_sem, *]) rfl ⟨HN.out.symm, ?_⟩
    have HBd := Lib.hid (HB2.out.trans ((Below.refl w2.heap.size w2).drew.mono HB2.out.size))
    exact ((((HBd.out.setCell (p := ⟨w.heap.size, 0, none⟩) (Nat.le_refl _) _).setCell (p := ⟨w.heap.size, 1, none⟩) (Nat.le_refl _) _).setCell (p := ⟨w.heap.size, 2, none⟩) (Nat.le_refl _) _).setCell (p := ⟨w.heap.size, 3, none⟩) (Nat.le_refl _) _)
theorem next_any (s : ByteArray) (k : Nat) (hs : s.size ≤ 100000) (hk : k ≤ s.size) (w : World) (hE : Errs w) :
    Calls Tryz.prog 134 #[.string s, .int .i64 k] w fun e w' => e = nextE s k ∧ Below w.heap.size w w' := by
  by_cases he : (firstL (tl s (atK s k))).2.2 = 0
  · exact next_ok s k hs hk w hE he
  · exact next_bad s k hs hk w hE he
end Go.Proofs.YthjflofcgdfekaaGreatDoor
