/- Contracts: the next token. -/
import Derived.Test.YthbmnnnlkgbieaaGreatDoorTC
import Derived.IntWalk
import Derived.StillTailTactics
import Derived.BigRegion
import Derived.RegionTactic
import Derived.ChangeAlike
import Derived.Test.YthbmnnnlkgbieaaGreatDoorAW
namespace Go.Proofs.YthbmnnnlkgbieaaGreatDoor
open Go.RowKit

/-- Where the token begins that is read from a place on. -/
def atK (s : ByteArray) (k : Nat) : Nat := k + lLen (tl s k)
theorem lLen_le (l : List UInt8) : lLen l ≤ l.length := runM_le _ _ _ _
theorem atK_le (s : ByteArray) (k : Nat) (h : k ≤ s.size) : k ≤ atK s k ∧ atK s k ≤ s.size := by
  have := lLen_le (tl s k)
  rw [tl_len] at this
  unfold atK
  omega
/-- A token, as it lies in memory. -/
abbrev tokV (kind at_ : Int) (lead text : ByteArray) : Value := .agg #[.int .i64 kind, .int .i64 at_, .string lead, .string text]
def nextE (s : ByteArray) (k : Nat) : Ending :=
  if (firstL (tl s (atK s k))).2.2 = 0 then .returned (.tuple #[tokV (firstL (tl s (atK s k))).1 (atK s k) (s.extract k (atK s k)) (s.extract (atK s k) (atK s k + (firstL (tl s (atK s k))).2.1)), .int .i64 0])
  else .returned (.tuple #[tokV 0 (atK s k) ⟨#[]⟩ ⟨#[]⟩, .int .i64 (firstL (tl s (atK s k))).2.2])

set_option maxHeartbeats 2000000 in
theorem next_bad (s : ByteArray) (k : Nat) (hs : s.size ≤ 100000) (hk : k ≤ s.size) (w : World) (hE : Errs w) (he : (firstL (tl s (atK s k))).2.2 ≠ 0) :
    Calls Tryz.prog 39 #[.string s, .int .i64 k] w fun e w' => e = nextE s k ∧ Below w.heap.size w w' := by
  have c1 := fun w => llen_any (s.extract k s.size) (by rw [ByteArray.size_extract]; omega) w
  rw [ext_end] at c1
  obtain ⟨ha, hb⟩ := atK_le s k hk
  have e1 : atK s k = k + lLen (tl s k) := rfl
  have c2 := fun w hE => first_any (s.extract (atK s k) s.size) (by rw [ByteArray.size_extract]; omega) w hE
  rw [ext_end] at c2
  have HN : Hid (nextE s k = .returned (.tuple #[tokV 0 (atK s k) ⟨#[]⟩ ⟨#[]⟩, .int .i64 (firstL (tl s (atK s k))).2.2])) := by
    show _ = _
    unfold nextE
    rw [if_neg he]
  obtain ⟨f, hf⟩ : ∃ f, f = firstL (tl s (atK s k)) := ⟨_, rfl⟩
  rw [← hf] at c2 HN he
  obtain ⟨x, y, z⟩ := f
  obtain ⟨a, haa⟩ : ∃ a, a = atK s k := ⟨_, rfl⟩
  obtain ⟨m, hm⟩ : ∃ m, m = lLen (tl s k) := ⟨_, rfl⟩
  rw [← haa] at c2 HN ha hb e1
  rw [← hm] at c1 e1
  unfold tri at c2
  simp only at c2 HN he
  have hkz : (k : Int) ≤ (s.size : Int) := by omega
  have haz : (a : Int) ≤ (s.size : Int) := by omega
  have EA : (k : Int) + (m : Int) = (a : Int) := by omega
  have hz : ((z : Int) != 0) = true := by simp; omega
  have C1 := Lib.hid c1
  have C2 := Lib.hid c2
  have HE := Lib.hid hE
  clear c1 c2 hf haa hm e1 hE he
  go_enter Tryz.func39, Tryz.ntmps39
  go_wp2_with fail
  refine (C1.out _).mono ?_
  rintro e w1 ⟨rfl, hb1⟩
  have R0 := Lib.hid (RowB.new w 47 #[.int .i64 0, .int .i64 0, .string ⟨#[]⟩, .string ⟨#[]⟩])
  have R1 := Lib.hid (R0.out.below hb1 (by simp))
  have HB0 := Lib.hid ((Below.refl w.heap.size w).alloc (Nat.le_refl _) (.cells #[.int .i64 0, .int .i64 0, .string ⟨#[]⟩, .string ⟨#[]⟩] 47))
  have HB1 := Lib.hid (HB0.out.trans (hb1.mono HB0.out.size))
  clear hb1
  go_wp2_with fail
  refine (C2.out _ (HE.out.below HB1.out)).mono ?_
  rintro e w2 ⟨rfl, hb2⟩
  have R2 := Lib.hid (R1.out.below hb2 R1.out.lt)
  have HB2 := Lib.hid (step_below HB1.out hb2)
  obtain ⟨q0, q1, q2, q3⟩ := (⟨R2.out.cell 0, R2.out.cell 1, R2.out.cell 2, R2.out.cell 3⟩ : w2.cell? ⟨w.heap.size, 0, none⟩ = some (.int .i64 0) ∧ w2.cell? ⟨w.heap.size, 1, none⟩ = some (.int .i64 0) ∧ w2.cell? ⟨w.heap.size, 2, none⟩ = some (.string ⟨#[]⟩) ∧ w2.cell? ⟨w.heap.size, 3, none⟩ = some (.string ⟨#[]⟩))
  have hfz := R2.out.thaw
  have hlt := R2.out.lt
  clear hb2
  go_wp2_with fail
  refine bodyPost_ret (v := .tuple #[tokV 0 a ⟨#[]⟩ ⟨#[]⟩, .int .i64 z]) (by simp [results, go_sem, *]) rfl ⟨HN.out.symm, ?_⟩
  exact ((((HB2.out.setCell (p := ⟨w.heap.size, 0, none⟩) (Nat.le_refl _) _).setCell (p := ⟨w.heap.size, 1, none⟩) (Nat.le_refl _) _).setCell (p := ⟨w.heap.size, 2, none⟩) (Nat.le_refl _) _).setCell (p := ⟨w.heap.size, 3, none⟩) (Nat.le_refl _) _)

theorem first_le (l : List UInt8) : (firstL l).2.1 ≤ l.length := by
  unfold firstL
  by_cases h : l = []
  · rw [if_pos h]; simp
  have h0 := len_pos h
  rw [if_neg h]
  have hw := wLen_le l
  split
  · unfold wordL
    split
    · exact hw
    · split
      · simp
      · exact hw
  · split
    · unfold numL
      split
      · exact hw
      · simp
    · split
      · unfold quotL
        split
        · show qLong l ≤ _
          unfold qLong
          omega
        · simp
      · unfold signL
        split
        · rename_i hp
          have : [61, 61].length ≤ l.length := (List.isPrefixOf_iff_prefix.1 hp).length_le
          exact this
        · split
          · exact h0
          · simp

set_option maxHeartbeats 4000000 in
theorem next_ok (s : ByteArray) (k : Nat) (hs : s.size ≤ 100000) (hk : k ≤ s.size) (w : World) (hE : Errs w) (he : (firstL (tl s (atK s k))).2.2 = 0) :
    Calls Tryz.prog 39 #[.string s, .int .i64 k] w fun e w' => e = nextE s k ∧ Below w.heap.size w w' := by
  have c1 := fun w => llen_any (s.extract k s.size) (by rw [ByteArray.size_extract]; omega) w
  rw [ext_end] at c1
  obtain ⟨ha, hb⟩ := atK_le s k hk
  have e1 : atK s k = k + lLen (tl s k) := rfl
  have c2 := fun w hE => first_any (s.extract (atK s k) s.size) (by rw [ByteArray.size_extract]; omega) w hE
  rw [ext_end] at c2
  have hfl := first_le (tl s (atK s k))
  rw [tl_len] at hfl
  have HN : Hid (nextE s k = .returned (.tuple #[tokV (firstL (tl s (atK s k))).1 (atK s k) (s.extract k (atK s k)) (s.extract (atK s k) (atK s k + (firstL (tl s (atK s k))).2.1)), .int .i64 0])) := by
    show _ = _
    unfold nextE
    rw [if_pos he]
  obtain ⟨f, hf⟩ : ∃ f, f = firstL (tl s (atK s k)) := ⟨_, rfl⟩
  rw [← hf] at c2 HN he hfl
  obtain ⟨x, y, z⟩ := f
  obtain ⟨a, haa⟩ : ∃ a, a = atK s k := ⟨_, rfl⟩
  obtain ⟨m, hm⟩ : ∃ m, m = lLen (tl s k) := ⟨_, rfl⟩
  rw [← haa] at c2 HN ha hb e1 hfl
  rw [← hm] at c1 e1
  unfold tri at c2
  simp only at c2 HN he hfl
  subst he
  obtain ⟨b, hbb⟩ : ∃ b, b = a + y := ⟨_, rfl⟩
  rw [← hbb] at HN
  have hkz : (k : Int) ≤ (s.size : Int) := by omega
  have haz : (a : Int) ≤ (s.size : Int) := by omega
  have hkaz : (k : Int) ≤ (a : Int) := by omega
  have habz : (a : Int) ≤ (b : Int) := by omega
  have hbz : (b : Int) ≤ (s.size : Int) := by omega
  have EA : (k : Int) + (m : Int) = (a : Int) := by omega
  have EB : (a : Int) + (y : Int) = (b : Int) := by omega
  have C1 := Lib.hid c1
  have C2 := Lib.hid c2
  have HE := Lib.hid hE
  clear c1 c2 hf haa hm e1 hE hfl hbb
  go_enter Tryz.func39, Tryz.ntmps39
  go_wp2_with fail
  refine (C1.out _).mono ?_
  rintro e w1 ⟨rfl, hb1⟩
  have R0 := Lib.hid (RowB.new w 47 #[.int .i64 0, .int .i64 0, .string ⟨#[]⟩, .string ⟨#[]⟩])
  have R1 := Lib.hid (R0.out.below hb1 (by simp))
  have HB0 := Lib.hid ((Below.refl w.heap.size w).alloc (Nat.le_refl _) (.cells #[.int .i64 0, .int .i64 0, .string ⟨#[]⟩, .string ⟨#[]⟩] 47))
  have HB1 := Lib.hid (HB0.out.trans (hb1.mono HB0.out.size))
  clear hb1
  go_wp2_with fail
  refine (C2.out _ (HE.out.below HB1.out)).mono ?_
  rintro e w2 ⟨rfl, hb2⟩
  have R2 := Lib.hid (R1.out.below hb2 R1.out.lt)
  have HB2 := Lib.hid (step_below HB1.out hb2)
  obtain ⟨q0, q1, q2, q3⟩ := (⟨R2.out.cell 0, R2.out.cell 1, R2.out.cell 2, R2.out.cell 3⟩ : w2.cell? ⟨w.heap.size, 0, none⟩ = some (.int .i64 0) ∧ w2.cell? ⟨w.heap.size, 1, none⟩ = some (.int .i64 0) ∧ w2.cell? ⟨w.heap.size, 2, none⟩ = some (.string ⟨#[]⟩) ∧ w2.cell? ⟨w.heap.size, 3, none⟩ = some (.string ⟨#[]⟩))
  have hfz := R2.out.thaw
  have hlt := R2.out.lt
  have WB : IntKind.i64.wrap (b : Int) = (b : Int) := IntWalk.i64_in _ (by omega)
  clear hb2
  go_wp2_with fail
  go_region
  all_goals
    go_wp2_with fail
    refine bodyPost_ret (v := .tuple #[tokV x a (s.extract k a) (s.extract a b), .int .i64 0]) (by simp [results, go_sem, *]) rfl ⟨HN.out.symm, ?_⟩
    have HBd := Lib.hid (HB2.out.trans ((Below.refl w2.heap.size w2).drew.mono HB2.out.size))
    exact ((((HBd.out.setCell (p := ⟨w.heap.size, 0, none⟩) (Nat.le_refl _) _).setCell (p := ⟨w.heap.size, 1, none⟩) (Nat.le_refl _) _).setCell (p := ⟨w.heap.size, 2, none⟩) (Nat.le_refl _) _).setCell (p := ⟨w.heap.size, 3, none⟩) (Nat.le_refl _) _)
theorem next_any (s : ByteArray) (k : Nat) (hs : s.size ≤ 100000) (hk : k ≤ s.size) (w : World) (hE : Errs w) :
    Calls Tryz.prog 39 #[.string s, .int .i64 k] w fun e w' => e = nextE s k ∧ Below w.heap.size w w' := by
  by_cases he : (firstL (tl s (atK s k))).2.2 = 0
  · exact next_ok s k hs hk w hE he
  · exact next_bad s k hs hk w hE he
end Go.Proofs.YthbmnnnlkgbieaaGreatDoor
