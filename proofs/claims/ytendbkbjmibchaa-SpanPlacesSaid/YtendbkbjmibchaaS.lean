/- Contracts: the document's own lines of a text (package whetstoneref01). -/
import Derived.Test.YtendbkbjmibchaaR
namespace Go.Proofs.Ytendbkbjmibchaa
open Go.RowKit

theorem info9 : (Try.prog.info? 9).map (fun i => (i.zero, i.size, i.bytes)) = some (some (.string ⟨#[]⟩), 1, 16) := by kernel_rfl

/-- Line i of a text. -/
def ln (s : ByteArray) (i : Nat) : ByteArray := s.extract (bg s i) (en s i)
/-- The first n lines. -/
def lns (s : ByteArray) (n : Nat) : List Value := (List.range n).map fun i => Value.string (ln s i)
theorem lns_len (s : ByteArray) (n : Nat) : (lns s n).length = n := by simp [lns]
theorem lns_succ (s : ByteArray) (n : Nat) : lns s (n + 1) = lns s n ++ [.string (ln s n)] := by simp [lns, List.range_succ]
theorem lns_at (s : ByteArray) (n i : Nat) (h : i < n) : (lns s n)[i]? = some (.string (ln s i)) := by simp [lns, h]

theorem en_hit (s : ByteArray) (k : Nat) (hk : k < s.size) (h : nlAt s k = true) : en s (lno s k) = k := by
  obtain ⟨h1, h2⟩ := lno_hit s k hk h
  have h3 := lno_le s (k + 1) (by omega)
  have := (bg_succ s (lno s k) (by omega)).1
  omega
theorem en_last (s : ByteArray) : lno s s.size = (F s).length ∧ en s (lno s s.size) = s.size := by
  have h : lno s s.size = (F s).length := rfl
  exact ⟨h, by rw [h]; unfold en; rw [if_pos rfl]⟩

/-- What Split answers: a slice that holds all lines. -/
def Splits (s : ByteArray) (w : World) (e : Ending) (w' : World) : Prop :=
  ∃ (g cap : Nat), e = .returned (.slice (some ⟨g, 0, none⟩) ((F s).length + 1) cap) ∧ g < w'.heap.size ∧ (∀ i, i < (F s).length + 1 → w'.cell? ⟨g, i, none⟩ = some (.string (ln s i))) ∧ Below w.heap.size w w'

theorem splits_of {s : ByteArray} {w w' : World} {v : Value} {base : Nat} (h : w'.ownsRow base 9 1 v ((F s).length + 1) (lns s ((F s).length + 1))) (hb : Below w.heap.size w w') : Splits s w (.returned v) w' := by
  rcases h.2 with ⟨hv, hx⟩ | ⟨g, cap, cur, hv, _⟩
  · omega
  · subst hv
    refine ⟨g, cap, rfl, (h.lt g rfl).2, fun i hi => ?_, hb⟩
    have := h.cells (g := g) rfl i _ (lns_at s _ i hi)
    simp only [Addr.add] at this
    by_cases h0 : i = 0 <;> simpa [h0] using this

theorem b_ext {a b : ByteArray} (h : a.data.toList = b.data.toList) : a = b := by
  cases a; cases b
  simp only [ByteArray.mk.injEq]
  exact Array.toList_inj.1 h
theorem b_cut (s : ByteArray) (i j : Nat) : (s.extract i j).data.toList = (s.data.toList.drop i).take (j - i) := by
  rw [ByteArray.data_extract, Array.toList_extract, List.extract_eq_take_drop]
theorem cut_join (s : ByteArray) (i k : Nat) (h : i ≤ k) : s.extract i k ++ s.extract k (k + 1) = s.extract i (k + 1) := by
  apply b_ext
  rw [ByteArray.data_append, Array.toList_append, b_cut, b_cut, b_cut, show k + 1 - i = (k - i) + 1 by omega, List.take_add, List.drop_drop, show i + (k - i) = k by omega, show k + 1 - k = 1 by omega]

set_option maxHeartbeats 2000000 in
set_option maxRecDepth 100000 in
theorem split_any (s : ByteArray) (w : World) (hl : s.size ≤ 3000) : Calls Try.prog 15 #[.string s] w (Splits s w) := by
  obtain ⟨i0, hi, hz0, hz1, hz2⟩ := info_parts info9
  have hF := F_len s
  go_enter Try.func15, Try.ntmps15
  go_wp2_with fail
  go_loopw [3, 4, 5] (fun v l i wr => ∃ k : Nat, k ≤ s.size ∧ i = .int .i64 k ∧ l = .string (s.extract (bg s (lno s k)) k) ∧ wr.ownsRow w.heap.size 9 1 v (lno s k) (lns s (lno s k)) ∧ Below w.heap.size w wr)
    (fun _ _ i _ => s.size - (intOf i).toNat)
  case atStart => exact ⟨0, Nat.zero_le _, rfl, by simp [bg, lno_zero]; rfl, World.ownsRow_nil _ _ _ _, Below.refl _ _⟩
  case round =>
    obtain ⟨k, hk, rfl, rfl, hown, hnx⟩ := hrel
    have hin := lno_in s k hk
    have hle := lno_le s k hk
    by_cases hlt : k < s.size
    · have hn := nlAt_of s k hlt
      cases h10 : nlAt s k
      · rw [h10] at hn
        have hn' := hn.symm
        have HE := Lib.hid (lno_miss s k h10)
        clear hn h10
        have HJ := Lib.hid (cut_join s (bg s (lno s k)) k (by omega))
        go_wp2_with fail
        go_roundw
        case rel => exact ⟨k + 1, by omega, by go_num, by rw [HE.out] <;> exact congrArg Value.string HJ.out, by rw [HE.out]; exact hown, hnx⟩
        case measure => simp [intOf]; omega
      · rw [h10] at hn
        have hn' := hn.symm
        have HE := Lib.hid (lno_hit s k hlt h10)
        have HX := Lib.hid (en_hit s k hlt h10)
        clear hn h10
        go_wp2_with (at_builtin; refine wpList_append_own _ rfl (.tmp 16) (.tmp 18) 27 rfl w.heap.size 9 i0 (.string ⟨#[]⟩) 1 16 Try.underlying27 hi hz0 hz1 hz2 rfl (by decide) _ _ _ rfl (hown.alloc _) ⟨wr.heap.size, 0, none⟩ 1 1 [.string (s.extract (bg s (lno s k)) k)] rfl rfl ?c1 ?c2 ?c3 ?c4 ?c5 ?_)
        case c1 =>
          intro j u hj
          match j, hj with
          | 0, hj => simp at hj; subst hj; simp [Addr.add]
        case c2 => intro u hu; simp at hu; subst hu; rfl
        case c3 => unfold maxLen; omega
        case c4 => omega
        case c5 => have := hnx.size; simp; omega
        · intro v' w1 hown' hgrow _
          have R1 : Hid (w1.ownsRow w.heap.size 9 1 v' (lno s (k + 1)) (lns s (lno s (k + 1)))) := by
            unfold Hid
            rw [HE.out.1, lns_succ]
            have : ln s (lno s k) = s.extract (bg s (lno s k)) k := by unfold ln; rw [HX.out]
            rw [this]
            exact hown'
          have R2 : Hid (Below w.heap.size w w1) := (hnx.alloc hnx.size _).grown hgrow (by have := hnx.size; simp; omega) (fun j hj => (hown.lt j hj).1)
          clear hown' hgrow hown hnx
          go_wp2_with fail
          go_roundw
          case rel => exact ⟨k + 1, by omega, by go_num, by rw [HE.out.1, HE.out.2]; exact congrArg Value.string (b_ext (by rw [b_cut]; simp)), R1.out, R2.out⟩
          case measure => simp [intOf]; omega
    · obtain rfl : k = s.size := by omega
      have HL := Lib.hid (en_last s)
      go_wp2_with (at_builtin; refine wpList_append_own _ rfl (.tmp 27) (.tmp 29) 27 rfl w.heap.size 9 i0 (.string ⟨#[]⟩) 1 16 Try.underlying27 hi hz0 hz1 hz2 rfl (by decide) _ _ _ rfl (hown.alloc _) ⟨wr.heap.size, 0, none⟩ 1 1 [.string (s.extract (bg s (lno s s.size)) s.size)] rfl rfl ?d1 ?d2 ?d3 ?d4 ?d5 ?_)
      case d1 =>
        intro j u hj
        match j, hj with
        | 0, hj => simp at hj; subst hj; simp [Addr.add]
      case d2 => intro u hu; simp at hu; subst hu; rfl
      case d3 => unfold maxLen; omega
      case d4 => omega
      case d5 => have := hnx.size; simp; omega
      · intro v' w1 hown' hgrow _
        have R1 : Hid (w1.ownsRow w.heap.size 9 1 v' ((F s).length + 1) (lns s ((F s).length + 1))) := by
          unfold Hid
          rw [← HL.out.1, lns_succ]
          have : ln s (lno s s.size) = s.extract (bg s (lno s s.size)) s.size := by unfold ln; rw [HL.out.2]
          rw [this]
          exact hown'
        have R2 : Hid (Below w.heap.size w w1) := (hnx.alloc hnx.size _).grown hgrow (by have := hnx.size; simp; omega) (fun j hj => (hown.lt j hj).1)
        clear hown' hgrow hown hnx
        go_wp2_with fail
        go_ret
        exact splits_of R1.out R2.out

theorem ln_size (s : ByteArray) (i : Nat) (h : i ≤ (F s).length) : (ln s i).size = en s i - bg s i := by
  have := bg_le_en s i h
  unfold ln
  rw [ByteArray.size_extract]
  omega

set_option maxHeartbeats 1000000 in
theorem rat_out (s : ByteArray) (i c : Int) (w : World) (hl : s.size ≤ 3000) (h : ¬ (0 ≤ i ∧ i ≤ (F s).length ∧ 0 ≤ c ∧ c ≤ (en s i.toNat : Int) - bg s i.toNat)) :
    Calls Try.prog 21 #[.string s, .int .i64 i, .int .i64 c] w fun e w' => e = .returned (.tuple #[.int .i64 0, .int .i64 6]) ∧ Below w.heap.size w w' := by
  have HN := Lib.hid h
  clear h
  go_enter Try.func21, Try.ntmps21
  go_wp2_with fail
  refine (split_any s _ hl).mono ?_
  rintro e w1 ⟨g, cap, rfl, hg, hc, hb⟩
  have HB := Lib.hid hb
  clear hb
  by_cases g1 : i < 0
  case' neg =>
    have g1' : 0 ≤ i := by omega
    clear g1
    by_cases g2 : ((F s).length : Int) + 1 ≤ i
    case' neg =>
      have g2' : i < ((F s).length : Int) + 1 := by omega
      clear g2
      by_cases g3 : c < 0
      case' neg =>
        have g3' : 0 ≤ c := by omega
        clear g3
        have hcm := hc i.toNat (by omega)
        have hsz := ln_size s i.toNat (by omega)
        obtain ⟨l, hl0⟩ : ∃ l, l = ln s i.toNat := ⟨_, rfl⟩
        rw [← hl0] at hcm hsz
        have hen := bg_le_en s i.toNat (by omega)
        have g4 : (l.size : Int) < c := by have := HN.out; omega
        clear hsz hl0 hen
  all_goals
    clear hc
    go_wp2
    go_ret2
    exact ⟨rfl, HB.out⟩

set_option maxHeartbeats 1000000 in
theorem rat_in (s : ByteArray) (i c : Int) (w : World) (hl : s.size ≤ 3000) (h0 : 0 ≤ i) (h1 : i ≤ (F s).length) (h2 : 0 ≤ c) (h3 : c ≤ (en s i.toNat : Int) - bg s i.toNat) :
    Calls Try.prog 21 #[.string s, .int .i64 i, .int .i64 c] w fun e w' => e = .returned (.tuple #[.int .i64 (bg s i.toNat + c), .int .i64 0]) ∧ Below w.heap.size w w' := by
  obtain ⟨n, rfl⟩ := Int.eq_ofNat_of_zero_le h0
  rw [Int.toNat_natCast] at h3 ⊢
  have hF := F_len s
  have hen := bg_le_en s n (by omega)
  go_enter Try.func21, Try.ntmps21
  go_wp2_with fail
  refine (split_any s _ hl).mono ?_
  rintro e w1 ⟨g, cap, rfl, hg, hc, hb⟩
  have HB := Lib.hid hb
  have HC := Lib.hid hc
  clear hb hc
  have hcm := HC.out n (by omega)
  have hsz := ln_size s n (by omega)
  obtain ⟨l, hl0⟩ : ∃ l, l = ln s n := ⟨_, rfl⟩
  rw [← hl0] at hcm hsz
  have g4 : c ≤ (l.size : Int) := by omega
  have k1 : (n : Int) < ((F s).length : Int) + 1 := by omega
  clear hsz hl0
  go_wp2_with fail
  go_loop [9, 10] (fun x i => ∃ k : Nat, k ≤ n ∧ i = .int .i64 k ∧ x = .int .i64 (bg s k + c)) (fun _ i => n - (intOf i).toNat)
  case atStart => exact ⟨0, by omega, rfl, by simp [bg]⟩
  case round =>
    obtain ⟨k, hk, rfl, rfl⟩ := hrel
    clear hcm
    by_cases hlt : k < n
    · have hcm := HC.out k (by omega)
      have hsz := ln_size s k (by omega)
      obtain ⟨l, hl0⟩ : ∃ l, l = ln s k := ⟨_, rfl⟩
      rw [← hl0] at hcm hsz
      have hen := bg_le_en s k (by omega)
      have hs := bg_succ s k (by omega)
      have HS : Hid (bg s (k + 1) = bg s k + l.size + 1) := by unfold Hid; omega
      have hll : l.size ≤ 3000 := by omega
      have hbb : bg s k ≤ 3000 := by omega
      clear hsz hl0 hs hen
      go_wp2
      go_round
      case rel => exact ⟨k + 1, by omega, by go_num, congrArg (Value.int IntKind.i64) (by rw [HS.out]; omega)⟩
      case measure => simp [intOf]; omega
    · obtain rfl : k = n := by omega
      go_wp2
      go_ret2
      exact ⟨rfl, HB.out⟩
end Go.Proofs.Ytendbkbjmibchaa
