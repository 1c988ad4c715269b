/- The law RunesBack returns true, whatever it is given. -/
import Derived.Test.YtpbheelocigciaaDoorAW
namespace Go.Proofs.YtpbheelocigciaaDoor
open Go.RowKit

def lw (b : UInt8) : Bool := decide (b < 32) && (b != 9) && (b != 10)
theorem low_snoc (l : List UInt8) (b : UInt8) : low (l ++ [b]) = (low l || lw b) := by simp [low, lw]
theorem mk_list (s : ByteArray) : (⟨s.data.toList.toArray⟩ : ByteArray) = s := bytes_ext (by simp)
theorem lw_of (b : UInt8) : lw b = (decide (b.toNat < 32) && !(decide (b.toNat = 9)) && !(decide (b.toNat = 10))) := by
  unfold lw
  rw [Bool.eq_iff_iff]
  simp [UInt8.lt_iff_toNat_lt, ← UInt8.toNat_inj]
theorem quo_read (s : ByteArray) : uq (⟨(quoL s.data.toList).toArray⟩ : ByteArray).data.toList = if low s.data.toList = true then .returned (.tuple #[.string ⟨#[]⟩, .int .i64 22]) else .returned (.tuple #[.string s, .int .i64 0]) := by
  have e : (⟨(quoL s.data.toList).toArray⟩ : ByteArray).data.toList = quoL s.data.toList := by simp
  rw [e]
  unfold uq
  rw [unq_quo]
  by_cases h : low s.data.toList = true
  · rw [if_pos h, if_pos h]
  · rw [if_neg h, if_neg h]
theorem quo_size (s : ByteArray) : (⟨(quoL s.data.toList).toArray⟩ : ByteArray).size ≤ 2 * s.size + 2 := by
  have := quo_len s.data.toList
  rw [len_list] at this
  show (quoL s.data.toList).toArray.size ≤ _
  simpa using this

set_option maxHeartbeats 1000000 in
theorem runesBack_far (s t : ByteArray) (w : World) (hT : Tabs w) (hs : (s.size : Int) ≤ 9223372036854775807) (ht : (t.size : Int) ≤ 9223372036854775807) (hl : 2000 < s.size ∨ 2000 < t.size) :
    Calls Tryd.prog 6 #[.string s, .string t] w fun e w' => e = .returned (.bool true) ∧ Below w.heap.size w w' := by
  have C := Lib.hid (awake_any w hT)
  clear hT
  by_cases h : 2000 < s.size
  · have hz : (s.size : Int) > 2000 := by omega
    clear hl
    go_enter Tryd.func6, Tryd.ntmps6
    go_wp2_with fail
    refine C.out.mono ?_
    rintro e w1 ⟨rfl, hb⟩
    have HB := Lib.hid hb
    clear hb
    go_wp2_with fail
    go_ret
    exact ⟨rfl, HB.out⟩
  · have hz : ¬ (s.size : Int) > 2000 := by omega
    have hy : (t.size : Int) > 2000 := by omega
    clear hl
    go_enter Tryd.func6, Tryd.ntmps6
    go_wp2_with fail
    refine C.out.mono ?_
    rintro e w1 ⟨rfl, hb⟩
    have HB := Lib.hid hb
    clear hb
    go_wp2_with fail
    go_ret
    exact ⟨rfl, HB.out⟩

set_option maxHeartbeats 4000000 in
set_option maxRecDepth 100000 in
theorem runesBack_near (s t : ByteArray) (w : World) (hT : Tabs w) (hs : s.size ≤ 2000) (ht : t.size ≤ 2000) :
    Calls Tryd.prog 6 #[.string s, .string t] w fun e w' => e = .returned (.bool true) ∧ Below w.heap.size w w' := by
  have hz : ¬ (s.size : Int) > 2000 := by omega
  have hy : ¬ (t.size : Int) > 2000 := by omega
  have HT := Lib.hid hT
  clear hT
  go_enter Tryd.func6, Tryd.ntmps6
  go_wp2_with fail
  go_loopg [5, 24] s.size (fun kx x a wr => ∃ (k : Nat) (lo : Bool), x = .bool lo ∧ a = .int .i64 k ∧ k ≤ s.size ∧ s.size - k ≤ kx ∧ Hid (lo = low (s.data.toList.take k)) ∧ Hid (w = wr))
  case atStart => exact ⟨0, false, rfl, rfl, by omega, by omega, rfl, rfl⟩
  case round =>
    obtain ⟨k, lo, rfl, rfl, hk, hkx, HL, HW⟩ := hrel
    obtain rfl := HW.out
    by_cases hlt : k < s.size
    · have hlz : (k : Int) < (s.size : Int) := by omega
      have hn : low (s.data.toList.take (k + 1)) = (lo || lw s[k]) := by rw [take_next s k hlt, low_snoc, ← HL.out]
      cases lo
      · rw [Bool.false_or, lw_of] at hn
        by_cases h32 : (s[k]'hlt).toNat < 32
        · have c1 : ((s[k]'hlt).toNat : Int) < 32 := by omega
          by_cases h9 : (s[k]'hlt).toNat = 9
          · have c2 : (((s[k]'hlt).toNat : Int) != 9) = false := by simp; omega
            have HN : Hid (false = low (s.data.toList.take (k + 1))) := by show _ = _; rw [hn, h9]; rfl
            clear hn h32 h9
            go_wp2_with fail
            go_roundg (s.size - (k + 1))
            case measure => omega
            case rel => exact ⟨k + 1, false, rfl, by go_num, by omega, by omega, HN, rfl⟩
          have c2 : (((s[k]'hlt).toNat : Int) != 9) = true := by simp; omega
          by_cases h10 : (s[k]'hlt).toNat = 10
          · have c3 : (((s[k]'hlt).toNat : Int) != 10) = false := by simp; omega
            have HN : Hid (false = low (s.data.toList.take (k + 1))) := by show _ = _; rw [hn, h10]; rfl
            clear hn h32 h9 h10
            go_wp2_with fail
            go_roundg (s.size - (k + 1))
            case measure => omega
            case rel => exact ⟨k + 1, false, rfl, by go_num, by omega, by omega, HN, rfl⟩
          have c3 : (((s[k]'hlt).toNat : Int) != 10) = true := by simp; omega
          have HN : Hid (true = low (s.data.toList.take (k + 1))) := by show _ = _; rw [hn, decide_eq_true h32, decide_eq_false h9, decide_eq_false h10]; rfl
          clear hn h32 h9 h10
          go_wp2_with fail
          go_roundg (s.size - (k + 1))
          case measure => omega
          case rel => exact ⟨k + 1, true, rfl, by go_num, by omega, by omega, HN, rfl⟩
        · have c1 : ¬ ((s[k]'hlt).toNat : Int) < 32 := by omega
          have HN : Hid (false = low (s.data.toList.take (k + 1))) := by show _ = _; rw [hn, decide_eq_false h32]; rfl
          clear hn h32
          go_wp2_with fail
          go_roundg (s.size - (k + 1))
          case measure => omega
          case rel => exact ⟨k + 1, false, rfl, by go_num, by omega, by omega, HN, rfl⟩
      · have HN : Hid (true = low (s.data.toList.take (k + 1))) := by show _ = _; rw [hn]; rfl
        clear hn
        go_wp2_with fail
        go_roundg (s.size - (k + 1))
        case measure => omega
        case rel => exact ⟨k + 1, true, rfl, by go_num, by omega, by omega, HN, rfl⟩
    · obtain rfl : k = s.size := by omega
      have hlz : ¬ (s.size : Int) < (s.size : Int) := by omega
      have hl := HL.out
      rw [List.take_of_length_le (by rw [len_list]; exact Nat.le_refl _)] at hl
      have c1 := quote_any s w (by omega)
      have c2 := fun w => unquote_any ⟨(quoL s.data.toList).toArray⟩ w (by have := quo_size s; omega)
      rw [quo_read, ← hl] at c2
      obtain ⟨q, hq⟩ : ∃ q, (⟨(quoL s.data.toList).toArray⟩ : ByteArray) = q := ⟨_, rfl⟩
      rw [hq] at c1 c2
      have C1 := Lib.hid c1
      have C2 := Lib.hid c2
      clear c1 c2 hl hq hlt
      have c3 := fun w => unquote_any t w (by omega)
      obtain ⟨y, n, hx, hagain⟩ : ∃ (y : ByteArray) (n : Int), uq t.data.toList = .returned (.tuple #[.string y, .int .i64 n]) ∧ (n = 22 ∨ (n = 0 ∧ low y.data.toList = false ∧ y.size ≤ 2000)) := by
        unfold uq
        cases hu : unq t.data.toList with
        | none => exact ⟨_, _, rfl, .inl rfl⟩
        | some o =>
          refine ⟨_, _, rfl, .inr ⟨rfl, ?_, ?_⟩⟩
          · simpa using unq_ok hu
          · have := unq_len hu
            rw [len_list] at this
            show o.toArray.size ≤ 2000
            simp; omega
      rw [hx] at c3
      have C3 := Lib.hid c3
      have HG := Lib.hid hagain
      clear c3 hx hagain
      cases lo
      case' false =>
        go_wp2_with fail
        refine C1.out.mono ?_
        rintro e w1 ⟨rfl, hb1⟩
        have HB1 := Lib.hid hb1
        have HT1 := Lib.hid (Utf8Tabs_below HT.out hb1)
        clear hb1
        go_wp2_with fail
        refine (C2.out _).mono ?_
        rintro e w2 ⟨he, hb2⟩
        rw [if_neg (by decide)] at he
        subst he
        have HB2 := Lib.hid (step_below HB1.out hb2)
        have HT2 := Lib.hid (Utf8Tabs_below HT1.out hb2)
        clear hb2
        go_wp2_with fail
      case' true =>
        go_wp2_with fail
        refine C1.out.mono ?_
        rintro e w1 ⟨rfl, hb1⟩
        have HB1 := Lib.hid hb1
        have HT1 := Lib.hid (Utf8Tabs_below HT.out hb1)
        clear hb1
        go_wp2_with fail
        refine (C2.out _).mono ?_
        rintro e w2 ⟨he, hb2⟩
        first | rw [if_pos rfl] at he | rw [if_pos trivial] at he
        subst he
        have HB2 := Lib.hid (step_below HB1.out hb2)
        have HT2 := Lib.hid (Utf8Tabs_below HT1.out hb2)
        clear hb2
        go_wp2_with fail
      all_goals
        refine (C3.out _).mono ?_
        rintro e w3 ⟨rfl, hb3⟩
        have HB3 := Lib.hid (step_below HB2.out hb3)
        have HT3 := Lib.hid (Utf8Tabs_below HT2.out hb3)
        clear hb3
        rcases HG.out with rfl | ⟨rfl, hlo, hys⟩
        · go_wp2_with fail
          refine (awake_any _ HT3.out).mono ?_
          rintro e w4 ⟨rfl, hb4⟩
          have HB4 := Lib.hid (step_below HB3.out hb4)
          clear hb4
          go_wp2_with fail
          go_ret
          exact ⟨rfl, HB4.out⟩
        · have c5 := fun w => unquote_any ⟨(quoL y.data.toList).toArray⟩ w (by have := quo_size y; omega)
          rw [quo_read, hlo, if_neg (by decide)] at c5
          have c4 := fun w => quote_any y w (by omega)
          obtain ⟨q2, hq2⟩ : ∃ q, (⟨(quoL y.data.toList).toArray⟩ : ByteArray) = q := ⟨_, rfl⟩
          rw [hq2] at c4 c5
          have C4 := Lib.hid c4
          have C5 := Lib.hid c5
          clear c4 c5 hq2 hlo
          go_wp2_with fail
          refine (C4.out _).mono ?_
          rintro e w4 ⟨rfl, hb4⟩
          have HB4 := Lib.hid (step_below HB3.out hb4)
          have HT4 := Lib.hid (Utf8Tabs_below HT3.out hb4)
          clear hb4
          go_wp2_with fail
          refine (C5.out _).mono ?_
          rintro e w5 ⟨rfl, hb5⟩
          have HB5 := Lib.hid (step_below HB4.out hb5)
          have HT5 := Lib.hid (Utf8Tabs_below HT4.out hb5)
          clear hb5
          go_wp2_with fail
          refine (awake_any _ HT5.out).mono ?_
          rintro e w6 ⟨rfl, hb6⟩
          have HB6 := Lib.hid (step_below HB5.out hb6)
          clear hb6
          go_wp2_with fail
          go_ret
          exact ⟨rfl, HB6.out⟩
theorem runesBack.walk (s t : ByteArray) (w : World) (hT : Tabs w) (hs : s.size ≤ maxLen) (ht : t.size ≤ maxLen) :
    Calls Tryd.prog 6 #[.string s, .string t] w fun e w' => e = .returned (.bool true) ∧ Below w.heap.size w w' := by
  unfold maxLen at hs ht
  by_cases h : 2000 < s.size ∨ 2000 < t.size
  · exact runesBack_far s t w hT (by omega) (by omega) h
  · exact runesBack_near s t w hT (by omega) (by omega)
end Go.Proofs.YtpbheelocigciaaDoor
