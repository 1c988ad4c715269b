/- Contracts: a text in quotes, by the program. -/
import Derived.Test.YtbjlhdjcdinmhaaDoorQP
import Derived.Lib.UnsafeStr
import Derived.Laws.IdiomStrings
import Derived.Laws.MakeOwn
import Derived.Lib.AppendStr
namespace Go.Proofs.YtbjlhdjcdinmhaaDoor
open Go.RowKit
namespace Qt
/-- The sign behind the backslash with which a byte is written. -/
def sg (b : UInt8) : UInt8 := if b = 10 then 110 else if b = 9 then 116 else if b = 34 then 34 else if b = 92 then 92 else 0
def sb (b : UInt8) : Bool := b == 10 || b == 9 || b == 34 || b == 92
/-- How a byte is written. -/
def esc (b : UInt8) : List UInt8 := if sb b = true then [92, sg b] else [b]
def quoL (l : List UInt8) : List UInt8 := 34 :: (l.flatMap esc ++ [34])
theorem flat_snoc (l : List UInt8) (b : UInt8) : (l ++ [b]).flatMap esc = l.flatMap esc ++ esc b := by simp
theorem flat_len : ∀ l : List UInt8, (l.flatMap esc).length ≤ 2 * l.length
  | [] => by simp
  | b :: l => by
    have := flat_len l
    simp only [List.flatMap_cons, List.length_append, List.length_cons]
    have h : (esc b).length ≤ 2 := by unfold esc; split <;> simp
    omega
theorem quo_len (l : List UInt8) : (quoL l).length ≤ 2 * l.length + 2 := by
  have := flat_len l
  simp only [quoL, List.length_cons, List.length_append, List.length_nil]
  omega
theorem take_nextB (s : ByteArray) (k : Nat) (h : k < s.size) : s.data.toList.take (k + 1) = s.data.toList.take k ++ [s[k]] := by
  rw [List.take_succ_eq_append_getElem (by simpa using h)]; rfl
theorem len_list (a : ByteArray) : a.data.toList.length = a.size := by simp
theorem info5 : (Tryd.prog.info? 5).map (fun i => (i.zero, i.size, i.bytes)) = some (some (.int .u8 0), 1, 1) := by kernel_rfl

/-- The text of a row of bytes that a call owns. -/
theorem conv_own {w : World} {base n : Nat} {v : Value} {l : List UInt8} (h : w.ownsRow base 5 1 v n (Lib.byteCells l)) :
    (convert 70 9 v).run Tryd.prog w = .ok (.string ⟨l.toArray⟩) w := by
  have hl : l.length = n := by have := h.1; simpa [Lib.byteCells] using this
  rcases h.2 with ⟨rfl, rfl⟩ | ⟨g, cap, cur, rfl, hb, hh, hnc, hcm, hsz, htk⟩
  · obtain rfl : l = [] := List.eq_nil_of_length_eq_zero hl
    rw [run_convert_bytes_string w 70 9 5 none 0 0 Tryd.underlying70 Tryd.underlying5 Tryd.underlying9]
    rfl
  · subst hl
    exact run_convert_bytes_back w 70 9 5 ⟨g, 0, none⟩ cap l Tryd.underlying70 Tryd.underlying5 Tryd.underlying9 fun j hj => h.cells (g := g) rfl j _ (by simp [Lib.byteCells, hj])
/-- A row that was written out. -/
theorem own_built (w : World) (base : Nat) (l : List UInt8) (hb : base ≤ w.heap.size) (hm : l.length ≤ 1000) (cs : Array Value) (hcs : cs.toList = Lib.byteCells l) :
    (w.alloc (.cells cs 5)).ownsRow base 5 1 (.slice (some ⟨w.heap.size, 0, none⟩) l.length l.length) l.length (Lib.byteCells l) := by
  have hsz : cs.size = l.length := by rw [← Array.length_toList, hcs, Lib.byteCells_length]
  refine ⟨by rw [Lib.byteCells_length]; omega, .inr ⟨w.heap.size, l.length, cs, rfl, hb, heap_alloc_new w _, Nat.le_refl _, by unfold maxLen; omega, by omega, ?_⟩⟩
  rw [hcs]
  exact List.take_of_length_le (by rw [Lib.byteCells_length]; omega)
theorem cells_two (w : World) (a b : Value) (j : Nat) (u : Value) (hj : [a, b][j]? = some u) : (w.alloc (.cells #[a, b] 5)).cell? ((⟨w.heap.size, 0, none⟩ : Addr).add j) = some u := by
  match j, hj with
  | 0, hj => simp at hj; subst hj; simp [Addr.add]
  | 1, hj => simp at hj; subst hj; simp [Addr.add]
  | (j + 2), hj => simp at hj
theorem cells_one (w : World) (a : Value) (j : Nat) (u : Value) (hj : [a][j]? = some u) : (w.alloc (.cells #[a] 5)).cell? ((⟨w.heap.size, 0, none⟩ : Addr).add j) = some u := by
  match j, hj with
  | 0, hj => simp at hj; subst hj; simp [Addr.add]
  | (j + 1), hj => simp at hj
theorem one2 (a b : Int) : ∀ u ∈ [Value.int .u8 a, Value.int .u8 b], u.oneCell' = true := by intro u hu; simp at hu; rcases hu with rfl | rfl <;> rfl
theorem one1 (a : Int) : ∀ u ∈ [Value.int .u8 a], u.oneCell' = true := by intro u hu; simp at hu; subst hu; rfl

set_option maxHeartbeats 400000 in
theorem sign_yes (b : UInt8) (w : World) (h : sb b = true) : Calls Tryd.prog 70 #[.int .u8 b.toNat] w fun e w' => e = .returned (.tuple #[.int .u8 (sg b).toNat, .bool true]) ∧ w = w' := by
  simp only [sb, Bool.or_eq_true, beq_iff_eq] at h
  rcases h with ((rfl | rfl) | rfl) | rfl
  all_goals
    go_enter Tryd.func70, Tryd.ntmps70
    go_wp2
    go_ret2
    exact ⟨rfl, rfl⟩
set_option maxHeartbeats 400000 in
theorem sign_no (b : UInt8) (w : World) (h : sb b = false) : Calls Tryd.prog 70 #[.int .u8 b.toNat] w fun e w' => e = .returned (.tuple #[.int .u8 0, .bool false]) ∧ w = w' := by
  simp only [sb, Bool.or_eq_false_iff, beq_eq_false_iff_ne, ne_eq, ← UInt8.toNat_inj] at h
  obtain ⟨⟨⟨h1, h2⟩, h3⟩, h4⟩ := h
  have q1 : ((b.toNat : Int) == 10) = false := by simp; exact fun e => h1 (by rw [show b.toNat = 10 by omega]; rfl)
  have q2 : ((b.toNat : Int) == 9) = false := by simp; exact fun e => h2 (by rw [show b.toNat = 9 by omega]; rfl)
  have q3 : ((b.toNat : Int) == 34) = false := by simp; exact fun e => h3 (by rw [show b.toNat = 34 by omega]; rfl)
  have q4 : ((b.toNat : Int) == 92) = false := by simp; exact fun e => h4 (by rw [show b.toNat = 92 by omega]; rfl)
  clear h1 h2 h3 h4
  go_enter Tryd.func70, Tryd.ntmps70
  go_wp2
  go_ret2
  exact ⟨rfl, rfl⟩
set_option maxHeartbeats 4000000 in
theorem quote_any (s : ByteArray) (w : World) (hs : s.size ≤ 100000) :
    Calls Tryd.prog 60 #[.string s] w fun e w' => e = .returned (.string ⟨(quoL s.data.toList).toArray⟩) ∧ Below w.heap.size w w' := by
  obtain ⟨i0, hi, hz0, hz1, hz2⟩ := info_parts info5
  go_enter Tryd.func60, Tryd.ntmps60
  go_wp2_with fail
  go_loopg [3, 10] s.size (fun kx v a wr => ∃ (k n : Nat) (l : List UInt8), a = .int .i64 k ∧ k ≤ s.size ∧ s.size - k ≤ kx ∧ n ≤ 2 * k + 1 ∧ Hid (l = 34 :: (s.data.toList.take k).flatMap esc) ∧ wr.ownsRow w.heap.size 5 1 v n (Lib.byteCells l) ∧ Below w.heap.size w wr)
  case atStart => exact ⟨0, 1, [34], rfl, by omega, by omega, by omega, rfl, own_built w _ [34] (Nat.le_refl _) (by decide) _ rfl, (Below.refl _ _).alloc (Nat.le_refl _) _⟩
  case round =>
    obtain ⟨k, n, l, rfl, hk, hkx, hn, HL, hown, hnx⟩ := hrel
    have hbsz := hnx.size
    by_cases hlt : k < s.size
    · have hlz : (k : Int) < (s.size : Int) := by omega
      cases hsb : sb (s[k]'hlt)
      · have C := Lib.hid (sign_no (s[k]'hlt) wr hsb)
        have HN : Hid (l ++ [s[k]'hlt] = 34 :: (s.data.toList.take (k + 1)).flatMap esc) := by
          show _ = _
          rw [HL.out, take_nextB s k hlt, flat_snoc]
          unfold esc
          rw [hsb]
          rfl
        clear hsb
        go_wp2_with fail
        refine C.out.mono ?_
        rintro e w1 ⟨rfl, rfl⟩
        go_wp2_with (at_builtin; refine wpList_append_own _ rfl (.tmp 25) (.tmp 29) 70 rfl w.heap.size 5 i0 (.int .u8 0) 1 1 Tryd.underlying70 hi hz0 hz1 hz2 rfl (by decide) _ _ _ rfl (hown.alloc _) ⟨wr.heap.size, 0, none⟩ 1 1 [.int .u8 (s[k]'hlt).toNat] rfl rfl ?c1 ?c2 ?c3 ?c4 ?c5 ?_)
        case c1 => exact cells_one _ _
        case c2 => exact one1 _
        case c3 => unfold maxLen; omega
        case c4 => omega
        case c5 => simp; omega
        intro v' w1 hown' hgrow _
        have R2 := (hnx.alloc hbsz (.cells #[.int .u8 (s[k]'hlt).toNat] 5)).grown hgrow (by simp; omega) (fun j hj => (hown.lt j hj).1)
        have R1 : w1.ownsRow w.heap.size 5 1 v' (n + 1) (Lib.byteCells (l ++ [s[k]'hlt])) := by rw [Lib.byteCells_append]; exact hown'
        clear hown' hgrow hown hnx
        go_wp2
        go_roundg (s.size - (k + 1))
        case measure => omega
        case rel => exact ⟨k + 1, n + 1, _, by go_num, by omega, by omega, by omega, HN, R1, R2⟩
      · have C := Lib.hid (sign_yes (s[k]'hlt) wr hsb)
        have HN : Hid (l ++ [92, sg (s[k]'hlt)] = 34 :: (s.data.toList.take (k + 1)).flatMap esc) := by
          show _ = _
          rw [HL.out, take_nextB s k hlt, flat_snoc]
          conv => rhs; rw [show esc (s[k]'hlt) = [92, sg (s[k]'hlt)] by unfold esc; rw [hsb]; rfl]
          rfl
        clear hsb
        go_wp2_with fail
        refine C.out.mono ?_
        rintro e w1 ⟨rfl, rfl⟩
        go_wp2_with (at_builtin; refine wpList_append_own _ rfl (.tmp 21) (.tmp 23) 70 rfl w.heap.size 5 i0 (.int .u8 0) 1 1 Tryd.underlying70 hi hz0 hz1 hz2 rfl (by decide) _ _ _ rfl (hown.alloc _) ⟨wr.heap.size, 0, none⟩ 2 2 [.int .u8 92, .int .u8 (sg (s[k]'hlt)).toNat] rfl rfl ?c1 ?c2 ?c3 ?c4 ?c5 ?_)
        case c1 => exact cells_two _ _ _
        case c2 => exact one2 _ _
        case c3 => unfold maxLen; omega
        case c4 => omega
        case c5 => simp; omega
        intro v' w1 hown' hgrow _
        have R2 := (hnx.alloc hbsz (.cells #[.int .u8 92, .int .u8 (sg (s[k]'hlt)).toNat] 5)).grown hgrow (by simp; omega) (fun j hj => (hown.lt j hj).1)
        have R1 : w1.ownsRow w.heap.size 5 1 v' (n + 2) (Lib.byteCells (l ++ [92, sg (s[k]'hlt)])) := by rw [Lib.byteCells_append]; exact hown'
        clear hown' hgrow hown hnx
        go_wp2
        go_roundg (s.size - (k + 1))
        case measure => omega
        case rel => exact ⟨k + 1, n + 2, _, by go_num, by omega, by omega, by omega, HN, R1, R2⟩
    · obtain rfl : k = s.size := by omega
      have hlz : ¬ (s.size : Int) < (s.size : Int) := by omega
      have HF : Hid (l ++ [34] = quoL s.data.toList) := by
        show _ = _
        rw [HL.out, List.take_of_length_le (by rw [len_list]; exact Nat.le_refl _)]
        rfl
      clear hlt
      go_wp2_with (at_builtin; refine wpList_append_own _ rfl (.tmp 32) (.tmp 33) 70 rfl w.heap.size 5 i0 (.int .u8 0) 1 1 Tryd.underlying70 hi hz0 hz1 hz2 rfl (by decide) _ _ _ rfl (hown.alloc _) ⟨wr.heap.size, 0, none⟩ 1 1 [.int .u8 34] rfl rfl ?c1 ?c2 ?c3 ?c4 ?c5 ?_)
      case c2 => rfl
      case c3 => unfold maxLen; omega
      case c4 => omega
      case c5 => omega
      intro v' w1 hown' hgrow _
      have R2 := (hnx.alloc hbsz (.cells #[.int .u8 34] 5)).grown hgrow (by simp; omega) (fun j hj => (hown.lt j hj).1)
      have R1 : w1.ownsRow w.heap.size 5 1 v' (n + 1) (Lib.byteCells (l ++ [34])) := by rw [Lib.byteCells_append]; exact hown'
      have hcv := conv_own R1
      rw [HF.out] at hcv
      clear hown' hgrow hown hnx R1
      go_wp2
      go_ret
      exact ⟨rfl, R2⟩
end Qt
end Go.Proofs.YtbjlhdjcdinmhaaDoor
