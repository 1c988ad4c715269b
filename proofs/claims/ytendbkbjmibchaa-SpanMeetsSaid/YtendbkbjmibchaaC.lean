/- Contracts: a text with its line feeds. -/
import Derived.Test.YtendbkbjmibchaaB
namespace Go.Proofs.Ytendbkbjmibchaa
open Go.RowKit

/-- Is byte k a line feed? -/
def nlAt (s : ByteArray) (k : Nat) : Bool := s.data.toList[k]? == some 10
/-- Where the line feeds among the first k bytes stand. -/
def fd (s : ByteArray) : Nat → List Int
  | 0 => []
  | k + 1 => if nlAt s k then fd s k ++ [(k : Int)] else fd s k
/-- Where all line feeds stand. -/
def F (s : ByteArray) : List Int := fd s s.size
theorem fd_len (s : ByteArray) (k : Nat) : (fd s k).length ≤ k := by
  induction k with
  | zero => simp [fd]
  | succ k ih =>
    unfold fd
    split
    · simp; omega
    · omega
theorem info3 : (Try.prog.info? 3).map (fun i => (i.zero, i.size, i.bytes)) = some (some (.int .i64 0), 1, 8) := by kernel_rfl

def TextOf (s : ByteArray) (w : World) (e : Ending) (w' : World) : Prop :=
  ∃ (A : Option Addr) (cap : Nat), e = .returned (.agg #[.string s, .slice A (F s).length cap]) ∧ Ints w' w'.heap.size A (F s) ∧ Below w.heap.size w w'

theorem nlAt_of (s : ByteArray) (k : Nat) (h : k < s.size) : nlAt s k = ((s[k].toNat : Int) == 10) := by
  unfold nlAt
  have e : s.data.toList[k]? = some s[k] := by
    rw [List.getElem?_eq_getElem (by simpa using h)]; rfl
  rw [e, Bool.eq_iff_iff]
  simp [← UInt8.toNat_inj]
  omega
theorem of_step_hit {s : ByteArray} {k : Nat} {w wr w1 : World} {v v' : Value} {o : Obj} (hn : nlAt s k = true)
    (hown : wr.ownsRow (w.heap.size + 1) 3 1 v (fd s k).length ((fd s k).map (Value.int .i64))) (hnx : Below w.heap.size w wr)
    (hown' : w1.ownsRow (w.heap.size + 1) 3 1 v' ((fd s k).length + 1) ((fd s k).map (Value.int .i64) ++ [.int .i64 (k : Int)])) (hgrow : (wr.alloc o).grownBy w1 v.ownBlock) :
    w1.ownsRow (w.heap.size + 1) 3 1 v' (fd s (k + 1)).length ((fd s (k + 1)).map (Value.int .i64)) ∧ Below w.heap.size w w1 := by
  have e : fd s (k + 1) = fd s k ++ [(k : Int)] := by simp [fd, hn]
  refine ⟨by rw [e]; simpa using hown', (hnx.alloc hnx.size o).grown hgrow (by have := hnx.size; simp; omega) fun j hj => ?_⟩
  have := (hown.lt j hj).1
  omega
theorem fd_miss {s : ByteArray} {k : Nat} (hn : nlAt s k = false) : fd s (k + 1) = fd s k := by simp [fd, hn]

set_option maxHeartbeats 400000 in
set_option maxRecDepth 100000 in
theorem of_any (s : ByteArray) (w : World) (hl : s.size ≤ 100000) : Calls Try.prog 14 #[.string s] w (TextOf s w) := by
  obtain ⟨i0, hi, hz0, hz1, hz2⟩ := info_parts info3
  go_enter Try.func14, Try.ntmps14
  go_wp2_with fail
  go_loopw [3, 7] (fun v i wr => ∃ k : Nat, k ≤ s.size ∧ i = .int .i64 k ∧ RowB wr w.heap.size 25 #[.string ⟨#[]⟩, .slice none 0 0] ∧ wr.ownsRow (w.heap.size + 1) 3 1 v (fd s k).length ((fd s k).map (Value.int .i64)) ∧ Below w.heap.size w wr)
    (fun _ i _ => s.size - (intOf i).toNat)
  case atStart => exact ⟨0, Nat.zero_le _, rfl, RowB.new _ _ _, World.ownsRow_nil _ _ _ _, (Below.refl _ _).alloc (Nat.le_refl _) _⟩
  case round =>
    obtain ⟨k, hk, rfl, hrow, hown, hnx⟩ := hrel
    have Hrow := Lib.hid hrow
    clear hrow
    have hle := fd_len s k
    by_cases hlt : k < s.size
    · have hn := nlAt_of s k hlt
      cases h10 : nlAt s k
      · rw [h10] at hn
        have hn' := hn.symm
        have H10 := Lib.hid h10
        clear hn h10
        go_wp2
        go_roundw
        case rel => exact ⟨k + 1, by omega, by go_num, Hrow.out, by rw [fd_miss H10.out]; exact hown, hnx⟩
        case measure => simp [intOf]; omega
      · rw [h10] at hn
        have hn' := hn.symm
        have H10 := Lib.hid h10
        clear hn h10
        go_wp2_with (at_builtin; refine wpList_append_own _ rfl (.tmp 14) (.tmp 16) 23 rfl (w.heap.size + 1) 3 i0 (.int .i64 0) 1 8 Try.underlying23 hi hz0 hz1 hz2 rfl (by decide) _ _ _ rfl (hown.alloc _) ⟨wr.heap.size, 0, none⟩ 1 1 [.int .i64 (k : Int)] rfl rfl ?c1 ?c2 ?c3 ?c4 ?c5 ?_)
        case c1 =>
          intro j u hj
          match j, hj with
          | 0, hj => simp at hj; subst hj; simp [Addr.add]
        case c2 => intro u hu; simp at hu; subst hu; rfl
        case c3 => unfold maxLen; omega
        case c4 => omega
        case c5 => have := hnx.size; simp; omega
        · intro v' w1 hown' hgrow _
          have R := of_step_hit H10.out hown hnx hown' hgrow
          have R2 := (Hrow.out.alloc _).grown hgrow (fun h => by have := (hown.lt _ h.symm).1; omega)
          clear hown' hgrow hown hnx
          go_wp2
          go_roundw
          case rel => exact ⟨k + 1, by omega, by go_num, R2, R.1, R.2⟩
          case measure => simp [intOf]; omega
    · obtain rfl : k = s.size := by omega
      have eF : fd s s.size = F s := rfl
      rw [eF] at hown hle
      clear eF
      obtain ⟨A, cap, rfl⟩ := own_form hown
      have hc0 : wr.cell? ⟨w.heap.size, 0, none⟩ = some (.string ⟨#[]⟩) := Hrow.out.cell 0
      have hc1 : wr.cell? ⟨w.heap.size, 1, none⟩ = some (.slice none 0 0) := Hrow.out.cell 1
      have hf := Hrow.out.thaw
      have Hown := Lib.hid hown
      clear hown
      go_wp2_with fail
      refine bodyPost_ret (v := .agg #[.string s, .slice A (F s).length cap]) (by simp [results, Try.results14, go_sem, hc0, hc1]) rfl ⟨A, cap, rfl, ?_, ?_⟩
      · exact Ints.of_own (ownsRow_setCell_below (ownsRow_setCell_below Hown.out (by simp) _) (by simp) _) rfl
      · exact (hnx.setCell (Nat.le_refl _) _).setCell (Nat.le_refl _) _
end Go.Proofs.Ytendbkbjmibchaa
