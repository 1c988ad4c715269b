/- Contracts: strings and signs at a text's beginning; the first token. -/
import Derived.Test.YthbmnnnlkgbieaaGreatDoorTB
import Derived.Test.YthbmnnnlkgbieaaGreatDoorRC
namespace Go.Proofs.YthbmnnnlkgbieaaGreatDoor
open Go.RowKit

theorem qLen_le (l : List UInt8) : qLen l ≤ l.length := runM_le _ _ _ _
set_option maxHeartbeats 1000000 in
theorem quoted_any (s : ByteArray) (hs : s.size ≤ 100000) (h0 : 0 < s.size) (w : World) : Calls Tryz.prog 71 #[.string s] w fun e w' => e = tri (quotL s.data.toList) ∧ Below w.heap.size w w' := by
  have hmf : ∀ (fn : Fn) (first cap : Array Value) (w : World), (Instr.makeFunc fn first cap).run Tryz.prog w = .ok (.func fn first cap) w := fun _ _ _ _ => rfl
  have c1 := prefix_quot (s.extract 1 s.size) (by rw [ByteArray.size_extract]; omega) w.heap.size (w.alloc (.cells #[.bool false] 4)) (RowB.new w 4 _)
  have hql := qLen_le (s.data.toList.drop 1)
  rw [List.length_drop, len_list] at hql
  have e1 : (s.extract 1 s.size).data.toList = s.data.toList.drop 1 := ext_end s 1
  rw [e1] at c1
  obtain ⟨x, hx⟩ : ∃ x, x = quotL s.data.toList := ⟨_, rfl⟩
  rw [← hx]
  unfold quotL qLong at hx
  rw [len_list] at hx
  obtain ⟨q, hq⟩ : ∃ q, q = qLen (s.data.toList.drop 1) := ⟨_, rfl⟩
  rw [← hq] at hx hql
  rw [show runM sls qGo false (s.data.toList.drop 1) = q from hq.symm] at c1
  obtain ⟨n, hn⟩ : ∃ n, n = min (1 + q + 1) s.size := ⟨_, rfl⟩
  rw [← hn] at hx
  have c2 := fun w => unquote_any (s.extract 0 n) w (by rw [ByteArray.size_extract]; omega)
  rw [ext_pre'] at c2
  have hns : n ≤ s.size := by omega
  have hz0 : (1 : Int) ≤ (s.size : Int) := by omega
  have hnz : (n : Int) ≤ (s.size : Int) := by omega
  have EN : min (1 + (q : Int) + 1) (s.size : Int) = (n : Int) := by omega
  have C1 := Lib.hid c1
  have C2 := Lib.hid c2
  have HX := Lib.hid hx
  clear c1 c2 hx hq e1 hn
  go_enter Tryz.func71, Tryz.ntmps71
  go_wp2_with fail
  refine C1.out.mono ?_
  rintro e w1 ⟨rfl, hb⟩
  have HB := Lib.hid (((Below.refl _ w).alloc (Nat.le_refl _) _).trans hb)
  clear hb
  go_wp2_with fail
  refine (C2.out _).mono ?_
  rintro e w2 ⟨he, hb⟩
  have HB2 := Lib.hid (HB.out.trans (hb.mono HB.out.size))
  clear hb
  unfold uq at he
  have HX2 := HX.out
  cases hu : unq (s.data.toList.take n) with
  | none =>
    rw [hu] at he HX2
    rw [if_neg (by decide)] at HX2
    have HX3 := Lib.hid HX2
    simp only at he
    subst he
    clear hu HX2
    go_wp2_with fail
    go_ret3
    exact ⟨tri_eq (a := 0) (b := 0) (c := 22) HX3.out, HB2.out⟩
  | some o =>
    rw [hu] at he HX2
    rw [if_pos (show (some o).isSome = true from rfl)] at HX2
    have HX3 := Lib.hid HX2
    simp only at he
    subst he
    clear hu HX2
    go_wp2_with fail
    go_ret3
    exact ⟨tri_eq (a := 4) (b := n) (c := 0) HX3.out, HB2.out⟩

set_option maxHeartbeats 1000000 in
theorem sign_any (s : ByteArray) (_hs : s.size ≤ 100000) (h0 : 0 < s.size) (w : World) : Calls Tryz.prog 72 #[.string s] w fun e w' => e = tri (signL s.data.toList) ∧ w = w' := by
  have c1 := sh_strings_HasPrefix s ⟨#[61, 61]⟩ w
  have e1 : (ByteArray.mk #[61, 61]).data.toList = [61, 61] := rfl
  rw [e1] at c1
  have c2 := sh_strings_IndexByte ⟨#[40, 41, 123, 125, 44, 59, 58, 46, 61, 43, 45, 42, 60]⟩ (s[0]'h0).toNat w
  have e2 : (ByteArray.mk #[40, 41, 123, 125, 44, 59, 58, 46, 61, 43, 45, 42, 60]).data.toList = signs := rfl
  have e3 : ((s[0]'h0).toNat : Int).toNat.toUInt8 = s.data.toList.getD 0 0 := by
    rw [Int.toNat_natCast]
    have : s.data.toList.getD 0 0 = s[0]'h0 := by
      rw [List.getD_eq_getElem?_getD, List.getElem?_eq_getElem (by simpa using h0)]
      rfl
    rw [this]
    simp
  rw [e2, e3] at c2
  obtain ⟨x, hx⟩ : ∃ x, x = signL s.data.toList := ⟨_, rfl⟩
  rw [← hx]
  unfold signL at hx
  obtain ⟨k, hk⟩ : ∃ k, k = Lib.indexByte signs (s.data.toList.getD 0 0) := ⟨_, rfl⟩
  rw [← hk] at c2 hx
  cases hp : Lib.hasPrefix s.data.toList [61, 61]
  · rw [hp] at c1 hx
    rw [if_neg (by decide)] at hx
    have C1 := Lib.hid c1
    have C2 := Lib.hid c2
    by_cases hk0 : 0 ≤ k
    · have hz : k ≥ 0 := hk0
      rw [if_pos hk0] at hx
      have HX := Lib.hid hx
      clear c1 c2 hx hk hp e1 e2 e3 hk0
      go_enter Tryz.func72, Tryz.ntmps72
      go_wp2_with fail
      refine C1.out.mono ?_
      rintro e w1 ⟨rfl, rfl⟩
      go_wp2_with fail
      refine C2.out.mono ?_
      rintro e w1 ⟨rfl, rfl⟩
      go_wp2_with fail
      go_ret3
      exact ⟨tri_eq (a := 5) (b := 1) (c := 0) HX.out, rfl⟩
    · have hz : ¬ k ≥ 0 := hk0
      rw [if_neg hk0] at hx
      have HX := Lib.hid hx
      clear c1 c2 hx hk hp e1 e2 e3 hk0
      go_enter Tryz.func72, Tryz.ntmps72
      go_wp2_with fail
      refine C1.out.mono ?_
      rintro e w1 ⟨rfl, rfl⟩
      go_wp2_with fail
      refine C2.out.mono ?_
      rintro e w1 ⟨rfl, rfl⟩
      go_wp2_with fail
      go_ret3
      exact ⟨tri_eq (a := 0) (b := 0) (c := 21) HX.out, rfl⟩
  · rw [hp] at c1 hx
    rw [if_pos rfl] at hx
    have C1 := Lib.hid c1
    have HX := Lib.hid hx
    clear c1 c2 hx hk hp e1 e2 e3
    go_enter Tryz.func72, Tryz.ntmps72
    go_wp2_with fail
    refine C1.out.mono ?_
    rintro e w1 ⟨rfl, rfl⟩
    go_wp2_with fail
    go_ret3
    exact ⟨tri_eq (a := 5) (b := 2) (c := 0) HX.out, rfl⟩

/-- The kind of the token with which bytes begin, how many bytes it has, what is wrong. -/
def firstL (l : List UInt8) : Nat × Nat × Nat :=
  if l = [] then (0, 0, 0) else if letN (l.getD 0 0).toNat = true then wordL l else if digN (l.getD 0 0).toNat = true then numL l else if (l.getD 0 0).toNat = 34 then quotL l else signL l
theorem head_of (s : ByteArray) (h0 : 0 < s.size) : (s.data.toList.getD 0 0).toNat = (s[0]'h0).toNat := (gb_of s 0 h0).symm

set_option maxHeartbeats 1000000 in
theorem first_any (s : ByteArray) (hs : s.size ≤ 100000) (w : World) (hE : Errs w) : Calls Tryz.prog 53 #[.string s] w fun e w' => e = tri (firstL s.data.toList) ∧ Below w.heap.size w w' := by
  obtain ⟨x, hx⟩ : ∃ x, x = firstL s.data.toList := ⟨_, rfl⟩
  rw [← hx]
  unfold firstL at hx
  by_cases h0 : 0 < s.size
  · have hne : s.data.toList ≠ [] := by
      intro e
      have := len_list s
      rw [e] at this
      simp at this
      omega
    rw [if_neg hne, head_of s h0] at hx
    have hnt : s.toList ≠ [] := by rw [ByteArray.toList_eq]; exact hne
    have hnt2 : (s.toList == []) = false := by simpa using hnt
    have hnt3 : s.toList.isEmpty = false := by simpa using hnt
    have c1 := fun w => letter_any (s[0]'h0).toNat w
    cases h1 : letN (s[0]'h0).toNat
    · rw [h1] at c1 hx
      rw [if_neg (by decide)] at hx
      have c2 := fun w => digit_any (s[0]'h0).toNat w
      cases h2 : digN (s[0]'h0).toNat
      · rw [h2] at c2 hx
        rw [if_neg (by decide)] at hx
        by_cases h3 : (s[0]'h0).toNat = 34
        · rw [if_pos h3] at hx
          have q : (((s[0]'h0).toNat : Int) == 34) = true := by simp; omega
          have C1 := Lib.hid c1
          have C2 := Lib.hid c2
          have C3 := Lib.hid (quoted_any s hs h0 w)
          have HX := Lib.hid hx
          clear c1 c2 hx h1 h2 h3 hE hne
          go_enter Tryz.func53, Tryz.ntmps53
          go_wp2_with fail
          refine (C1.out _).mono ?_
          rintro e w1 ⟨rfl, rfl⟩
          go_wp2_with fail
          refine (C2.out _).mono ?_
          rintro e w1 ⟨rfl, rfl⟩
          go_wp2_with fail
          refine C3.out.mono ?_
          rintro e w1 ⟨he, hb⟩
          rw [← HX.out] at he
          unfold tri at he
          subst he
          have HB := Lib.hid hb
          clear hb
          go_wp2_with fail
          go_ret3
          exact ⟨rfl, HB.out⟩
        · rw [if_neg h3] at hx
          have q : (((s[0]'h0).toNat : Int) == 34) = false := by simp; omega
          have C1 := Lib.hid c1
          have C2 := Lib.hid c2
          have C3 := Lib.hid (sign_any s hs h0 w)
          have HX := Lib.hid hx
          clear c1 c2 hx h1 h2 h3 hE hne
          go_enter Tryz.func53, Tryz.ntmps53
          go_wp2_with fail
          refine (C1.out _).mono ?_
          rintro e w1 ⟨rfl, rfl⟩
          go_wp2_with fail
          refine (C2.out _).mono ?_
          rintro e w1 ⟨rfl, rfl⟩
          go_wp2_with fail
          refine C3.out.mono ?_
          rintro e w1 ⟨he, rfl⟩
          rw [← HX.out] at he
          unfold tri at he
          subst he
          go_wp2_with fail
          go_ret3
          exact ⟨rfl, Below.refl _ _⟩
      · rw [h2] at c2 hx
        rw [if_pos rfl] at hx
        have C1 := Lib.hid c1
        have C2 := Lib.hid c2
        have C3 := Lib.hid (number_any s hs w hE)
        have HX := Lib.hid hx
        clear c1 c2 hx h1 h2 hE hne
        go_enter Tryz.func53, Tryz.ntmps53
        go_wp2_with fail
        refine (C1.out _).mono ?_
        rintro e w1 ⟨rfl, rfl⟩
        go_wp2_with fail
        refine (C2.out _).mono ?_
        rintro e w1 ⟨rfl, rfl⟩
        go_wp2_with fail
        refine C3.out.mono ?_
        rintro e w1 ⟨he, hb⟩
        rw [← HX.out] at he
        unfold tri at he
        subst he
        have HB := Lib.hid hb
        clear hb
        go_wp2_with fail
        go_ret3
        exact ⟨rfl, HB.out⟩
    · rw [h1] at c1 hx
      rw [if_pos rfl] at hx
      have C1 := Lib.hid c1
      have C3 := Lib.hid (word_any s hs w)
      have HX := Lib.hid hx
      clear c1 hx h1 hE hne
      go_enter Tryz.func53, Tryz.ntmps53
      go_wp2_with fail
      refine (C1.out _).mono ?_
      rintro e w1 ⟨rfl, rfl⟩
      go_wp2_with fail
      refine C3.out.mono ?_
      rintro e w1 ⟨he, rfl⟩
      rw [← HX.out] at he
      unfold tri at he
      subst he
      go_wp2_with fail
      go_ret3
      exact ⟨rfl, Below.refl _ _⟩
  · have hl : s.data.toList = [] := List.eq_nil_of_length_eq_zero (by rw [len_list]; omega)
    rw [if_pos hl] at hx
    have hnt : s.toList = [] := by rw [ByteArray.toList_eq]; exact hl
    have HX := Lib.hid hx
    clear hl hx h0 hE
    go_enter Tryz.func53, Tryz.ntmps53
    go_wp2_with fail
    go_ret3
    exact ⟨tri_eq (a := 0) (b := 0) (c := 0) HX.out, Below.refl _ _⟩
end Go.Proofs.YthbmnnnlkgbieaaGreatDoor
