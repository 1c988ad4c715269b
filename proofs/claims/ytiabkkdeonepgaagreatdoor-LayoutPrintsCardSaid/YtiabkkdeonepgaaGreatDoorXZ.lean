import Derived.Test.YtiabkkdeonepgaaGreatDoorXX
import Derived.Test.YtiabkkdeonepgaaGreatDoorXR
import Derived.Test.YtiabkkdeonepgaaGreatDoorXC
import Derived.Test.YtiabkkdeonepgaaGreatDoorXE
set_option maxRecDepth 100000
namespace Go.Proofs.YtiabkkdeonepgaaGreatDoor
open Go.RowKit
namespace Pg
open Ps
theorem word_facts {l : List UInt8} (h : firstL l = (1, l.length, 0)) : l ≠ [] ∧ letN (l.getD 0 0).toNat = true ∧ wLen l = l.length ∧ l.length ≤ 40 ∧ keyL l = false := by
  unfold firstL at h
  split at h
  · cases h
  · rename_i h0
    split at h
    · rename_i h1
      unfold wordL at h
      split at h
      · cases h
      · rename_i hk
        split at h
        · cases h
        · rename_i h40
          have hw : wLen l = l.length := congrArg (fun x : Nat × Nat × Nat => x.2.1) h
          rw [hw, List.take_length] at hk
          exact ⟨h0, h1, hw, by omega, by simpa using hk⟩
    · exfalso
      split at h
      · unfold numL at h
        split at h <;> cases h
      · split at h
        · unfold quotL at h
          split at h <;> cases h
        · unfold signL at h
          split at h
          · cases h
          · split at h <;> cases h
theorem lone_lex {s : ByteArray} {n : Nat} (hf : firstL s.data.toList = (n, s.data.toList.length, 0)) (hn : n ≠ 0) (hw : okW s) : ∃ C, lexR s = .good C ∧ C.map kt = [(n, s), (0, ⟨#[]⟩)] := by
  obtain ⟨h1, h2⟩ := hw
  have e2 : s.data.toList.length = s.size := by simp
  have e0 : txt [(⟨n, 0, ⟨#[]⟩, s⟩ : Tok), ⟨0, s.size, ⟨#[]⟩, ⟨#[]⟩⟩] 0 = s.data.toList := rfl
  have F : LexOk [(⟨n, 0, ⟨#[]⟩, s⟩ : Tok), ⟨0, s.size, ⟨#[]⟩, ⟨#[]⟩⟩] := by
    refine ⟨fun i hi => ?_, fun i hi hl => ?_, fun i hi => ?_, fun i hi => ?_⟩
    · obtain rfl : i = 0 := by simp at hi; omega
      exact ⟨hf, hn⟩
    · obtain rfl : i = 1 := by simp at hl; omega
      exact ⟨rfl, rfl⟩
    · obtain rfl : i = 0 := by simp at hi; omega
      exact h1
    · obtain rfl : i = 0 := by simp at hi; omega
      rw [e0]; omega
  have L : Lin [(⟨n, 0, ⟨#[]⟩, s⟩ : Tok), ⟨0, s.size, ⟨#[]⟩, ⟨#[]⟩⟩] 0 s.data.toList := by
    have := Lin.cons (l := [(⟨n, 0, ⟨#[]⟩, s⟩ : Tok), ⟨0, s.size, ⟨#[]⟩, ⟨#[]⟩⟩]) 0 [] [] (by simp) (by intro c hc; cases hc) (fun c hc => by cases hc) (Lin.nil 1 [] rfl (by intro c hc; cases hc))
    simpa [e0] using this
  obtain ⟨C, c1, c2⟩ := lin_lex s F 0 _ L 0 0 (s.size + 1) (by omega) (by simp [tl]) (by simp) (by omega)
  refine ⟨C, ?_, c2⟩
  unfold lexR
  rw [if_neg (by omega), if_neg (by rw [h1]; simp)]
  exact c1
end Pg
end Go.Proofs.YtiabkkdeonepgaaGreatDoor
namespace Go.Proofs.YtiabkkdeonepgaaGreatDoor
open Go.RowKit
namespace Pg
open Ps
set_option maxHeartbeats 2000000 in
theorem name_true (s : ByteArray) (w : World) (hf : firstL s.data.toList = (1, s.data.toList.length, 0)) : Calls Tryz.prog 48 #[.string s] w fun e w' => e = .returned (.bool true) ∧ Below w.heap.size w w' := by
  obtain ⟨hne, h1, h2, h3, h4⟩ := word_facts hf
  rw [len_list] at h2 h3
  have h0 : 0 < s.size := by
    rcases Nat.eq_zero_or_pos s.size with h | h
    · exact absurd (List.length_eq_zero_iff.mp (by rw [len_list]; exact h)) hne
    · exact h
  have hq : (s.toList != []) = true := by rw [ByteArray.toList_eq]; simpa using hne
  have hq2 : s.toList.isEmpty = false := by rw [ByteArray.toList_eq]; simpa using hne
  rw [head_of s h0] at h1
  have c1 := letter_any (s[0]'h0).toNat w
  have c2 := wlen_any s (by omega) w
  have c3 := key_any s w
  rw [h1] at c1
  rw [h2] at c2
  rw [h4] at c3
  have q3 : (s.size : Int) ≤ 40 := by omega
  have C1 := Lib.hid c1
  have C2 := Lib.hid c2
  have C3 := Lib.hid c3
  clear c1 c2 c3 hf h1 h2 h4 hne h3
  go_enter Tryz.func48, Tryz.ntmps48
  go_wp2_with fail
  refine C1.out.mono ?_
  rintro e w1 ⟨rfl, rfl⟩
  go_wp2_with fail
  refine C2.out.mono ?_
  rintro e w1 ⟨rfl, rfl⟩
  go_wp2_with fail
  refine C3.out.mono ?_
  rintro e w1 ⟨rfl, rfl⟩
  go_wp2_with fail
  (first | go_ret | go_ret2)
  exact ⟨rfl, Below.refl _ _⟩
set_option maxHeartbeats 2000000 in
theorem token_true (s : ByteArray) (n : Nat) (ni : Int) (w : World) (hni : ni = (n : Int)) (hf : firstL s.data.toList = (n, s.data.toList.length, 0)) (hn : n ≠ 0) (hw : okW s) (hT : Tabs w) (hE : Errs w) : Calls Tryz.prog 49 #[.string s, .int .i64 ni] w fun e w' => e = .returned (.bool true) ∧ Below w.heap.size w w' := by
  subst hni
  obtain ⟨L, hL, hm⟩ := lone_lex hf hn hw
  have C := Lib.hid (lext_any s (by have := hw.2; omega) w hT hE)
  obtain ⟨c0, c1, rfl, he⟩ : ∃ c0 c1, L = [c0, c1] ∧ kt c0 = (n, s) := by
    have hl : L.length = 2 := by simpa using congrArg List.length hm
    cases L with
    | nil => cases hl
    | cons a L' => cases L' with
      | nil => cases hl
      | cons b L'' => cases L'' with
        | nil => exact ⟨a, b, rfl, by injection hm⟩
        | cons _ _ => simp at hl
  have k0 : c0.kind = n := congrArg Prod.fst he
  have t0 : c0.text = s := congrArg Prod.snd he
  have HL := Lib.hid hL
  clear hf hn hw hT hE hL hm he
  go_enter Tryz.func49, Tryz.ntmps49
  go_wp2_with fail
  refine C.out.mono ?_
  rintro e w1 ⟨hb, hm⟩
  rw [HL.out] at hm
  obtain ⟨A, cap, rfl, ht, _, hcap⟩ := hm
  obtain ⟨g, rfl, hg, hc⟩ := ht (by simp)
  have hc0 := hc 0 (by simp)
  simp only [List.getElem_cons_zero, Nat.zero_mul, Nat.zero_add] at hc0
  obtain ⟨z0, _, _, z3⟩ := hc0
  rw [k0] at z0
  rw [t0] at z3
  have HB := Lib.hid hb
  simp only [List.length_cons, List.length_nil, Nat.zero_add, Nat.reduceAdd] at hcap ⊢
  have hcap2 : 2 ≤ cap := hcap (by omega)
  clear hb hc hcap ht
  go_wp2_with fail
  (first | go_ret | go_ret2)
  exact ⟨rfl, HB.out⟩
set_option maxHeartbeats 4000000 in
theorem hasword_any (w : World) (x1 x2 x3 : Nat) (x4 : ByteArray) (x5 : Nat) (A : Option Addr) (n cap : Nat) (hT : Tabs w) (hE : Errs w) (hw : wrd ⟨x1, x2, x3, x4, x5⟩) :
    Calls Tryz.prog 29 #[.agg #[.int .i64 x1, .int .i64 x2, .int .i64 x3, .string x4, .int .i64 x5, .slice A n cap]] w fun e w' => e = .returned (.bool true) ∧ Below w.heap.size w w' := by
  have R0 := Lib.hid (RowB.new w 25 #[.int .i64 x1, .int .i64 x2, .int .i64 x3, .string x4, .int .i64 x5, .slice A n cap])
  have rc := R0.out.cell
  have HT := Lib.hid (hT.step (bel1 w (.cells #[.int .i64 x1, .int .i64 x2, .int .i64 x3, .string x4, .int .i64 x5, .slice A n cap] 25)))
  have HE := Lib.hid (hE.below (bel1 w (.cells #[.int .i64 x1, .int .i64 x2, .int .i64 x3, .string x4, .int .i64 x5, .slice A n cap] 25)))
  clear hT hE
  unfold wrd at hw
  dsimp only at hw
  by_cases hn : named x1 = true
  · rw [if_pos hn] at hw
    have hx : x1 = 2 ∨ x1 = 3 ∨ x1 = 5 ∨ x1 = 7 ∨ x1 = 8 ∨ x1 = 19 ∨ x1 = 23 ∨ x1 = 27 ∨ x1 = 33 := by
      unfold named at hn
      simp only [Bool.or_eq_true, beq_iff_eq] at hn
      omega
    clear hn
    have C := Lib.hid (name_true x4 (w.alloc (.cells #[.int .i64 x1, .int .i64 x2, .int .i64 x3, .string x4, .int .i64 x5, .slice A n cap] 25)) hw)
    clear hw
    rcases hx with rfl | rfl | rfl | rfl | rfl | rfl | rfl | rfl | rfl <;>
    (go_enter Tryz.func29, Tryz.ntmps29
     go_wp2_with fail
     refine C.out.mono ?_
     rintro e w1 ⟨rfl, h1⟩
     have HB := Lib.hid h1
     clear h1 C rc
     go_wp2_with fail
     (first | go_ret | go_ret2)
     exact ⟨rfl, (bel1 w _).trans (HB.out.mono (by simp))⟩)
  rw [if_neg hn] at hw
  by_cases h21 : x1 = 21
  · subst h21
    rw [if_pos rfl] at hw
    clear hn
    have C := Lib.hid (token_true x4 3 3 (w.alloc (.cells #[.int .i64 21, .int .i64 x2, .int .i64 x3, .string x4, .int .i64 x5, .slice A n cap] 25)) rfl hw.1 (by decide) hw.2 HT.out HE.out)
    clear hw
    go_enter Tryz.func29, Tryz.ntmps29
    go_wp2_with fail
    refine C.out.mono ?_
    rintro e w1 ⟨rfl, h1⟩
    have HB := Lib.hid h1
    clear h1 C rc
    go_wp2_with fail
    (first | go_ret | go_ret2)
    exact ⟨rfl, (bel1 w _).trans (HB.out.mono (by simp))⟩
  rw [if_neg h21] at hw
  by_cases h22 : x1 = 22
  · subst h22
    rw [if_pos rfl] at hw
    clear hn h21
    have C := Lib.hid (token_true x4 4 4 (w.alloc (.cells #[.int .i64 22, .int .i64 x2, .int .i64 x3, .string x4, .int .i64 x5, .slice A n cap] 25)) rfl hw.1 (by decide) hw.2 HT.out HE.out)
    clear hw
    go_enter Tryz.func29, Tryz.ntmps29
    go_wp2_with fail
    refine C.out.mono ?_
    rintro e w1 ⟨rfl, h1⟩
    have HB := Lib.hid h1
    clear h1 C rc
    go_wp2_with fail
    (first | go_ret | go_ret2)
    exact ⟨rfl, (bel1 w _).trans (HB.out.mono (by simp))⟩
  rw [if_neg h22] at hw
  subst hw
  unfold named at hn
  simp only [Bool.or_eq_true, beq_iff_eq, not_or] at hn
  have t2 : ((x1 : Int) == 2) = false := by rw [beq_eq_false_iff_ne]; omega
  have t3 : ((x1 : Int) == 3) = false := by rw [beq_eq_false_iff_ne]; omega
  have t5 : ((x1 : Int) == 5) = false := by rw [beq_eq_false_iff_ne]; omega
  have t7 : ((x1 : Int) == 7) = false := by rw [beq_eq_false_iff_ne]; omega
  have t8 : ((x1 : Int) == 8) = false := by rw [beq_eq_false_iff_ne]; omega
  have t19 : ((x1 : Int) == 19) = false := by rw [beq_eq_false_iff_ne]; omega
  have t23 : ((x1 : Int) == 23) = false := by rw [beq_eq_false_iff_ne]; omega
  have t27 : ((x1 : Int) == 27) = false := by rw [beq_eq_false_iff_ne]; omega
  have t33 : ((x1 : Int) == 33) = false := by rw [beq_eq_false_iff_ne]; omega
  have t21 : ((x1 : Int) == 21) = false := by rw [beq_eq_false_iff_ne]; omega
  have t22 : ((x1 : Int) == 22) = false := by rw [beq_eq_false_iff_ne]; omega
  have hz : (e0.toList == []) = true := by rw [ByteArray.toList_eq]; rfl
  clear hn h21 h22
  go_enter Tryz.func29, Tryz.ntmps29
  go_wp2_with fail
  (first | go_ret | go_ret2)
  exact ⟨rfl, bel1 w _⟩
end Pg
end Go.Proofs.YtiabkkdeonepgaaGreatDoor
