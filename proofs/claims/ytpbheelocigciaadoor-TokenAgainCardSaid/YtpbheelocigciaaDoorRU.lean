/- Contracts: the document's strings, read. -/
import Derived.Test.YtpbheelocigciaaDoorRQ
namespace Go.Proofs.YtpbheelocigciaaDoor
open Go.RowKit

/-- How far a string has been read. -/
def Rd (W : List UInt8) (I O : ByteArray) : Prop := um W false = (um I.data.toList false).map (O.data.toList ++ ·)
theorem cons_one (I : ByteArray) (h : 0 < I.size) : I.data.toList = I[0] :: (I.extract 1 I.size).data.toList := by
  have e : (I.extract 1 I.size).data.toList = I.data.toList.drop 1 := by
    rw [ByteArray.data_extract, Array.toList_extract, List.extract_eq_take_drop]
    exact List.take_of_length_le (by simp)
  rw [e]
  have h' : 0 < I.data.toList.length := by simpa using h
  conv => lhs; rw [← List.drop_zero (l := I.data.toList), List.drop_eq_getElem_cons h']
  rfl
theorem cons_two (I : ByteArray) (h : 1 < I.size) : I.data.toList = I[0] :: I[1] :: (I.extract 2 I.size).data.toList := by
  have e : (I.extract 2 I.size).data.toList = I.data.toList.drop 2 := by
    rw [ByteArray.data_extract, Array.toList_extract, List.extract_eq_take_drop]
    exact List.take_of_length_le (by simp)
  rw [e]
  have h' : 0 < I.data.toList.length := by have : 0 < I.size := by omega
                                           simpa using this
  have h'' : 1 < I.data.toList.length := by simpa using h
  conv => lhs; rw [← List.drop_zero (l := I.data.toList), List.drop_eq_getElem_cons h', Nat.zero_add, List.drop_eq_getElem_cons h'']
  rfl
theorem rest_size (I : ByteArray) (k : Nat) : (I.extract k I.size).size = I.size - k := by rw [ByteArray.size_extract]; omega
theorem Rd.low {W : List UInt8} {I O : ByteArray} (h : Rd W I O) (h0 : 0 < I.size) (hb : I[0].toNat < 32 ∨ I[0].toNat = 34) : um W false = none := by
  unfold Rd at h
  rw [h, cons_one I h0, um_low _ (by rw [ne_eq, ← UInt8.toNat_inj]; intro e; rw [e] at hb; revert hb; decide) (by rw [UInt8.lt_iff_toNat_lt, ← UInt8.toNat_inj]; exact hb)]
  rfl
theorem Rd.byte {W : List UInt8} {I O : ByteArray} (h : Rd W I O) (h0 : 0 < I.size) (hb : I[0].toNat ≠ 92) (hc : ¬ (I[0].toNat < 32 ∨ I[0].toNat = 34)) : Rd W (I.extract 1 I.size) (O ++ I.extract 0 1) := by
  unfold Rd at h ⊢
  have e : (I.extract 0 1).data.toList = [I[0]] := ext_one I 0 h0
  rw [app_list, e]
  refine um_pre (b := I[0]) (sl := false) ?_ (um_byte _ (by rw [ne_eq, ← UInt8.toNat_inj]; exact hb) (by rw [UInt8.lt_iff_toNat_lt, ← UInt8.toNat_inj]; exact hc))
  rw [h, ← cons_one I h0]
theorem Rd.short {W : List UInt8} {I O : ByteArray} (h : Rd W I O) (h0 : I.size = 1) (hb : I[0].toNat = 92) : um W false = none := by
  unfold Rd at h
  have e : (I.extract 1 I.size).data.toList = [] := List.eq_nil_of_length_eq_zero (by rw [len_list, rest_size]; omega)
  rw [h, cons_one I (by omega), e, u8_eq (by decide) hb]
  rfl
theorem Rd.sign {W : List UInt8} {I O : ByteArray} (h : Rd W I O) (h0 : 1 < I.size) (hb : I[0].toNat = 92) (hs : mb I[1] = true) {X : ByteArray} (hx : X.data.toList = [mn I[1]]) : Rd W (I.extract 2 I.size) (O ++ X) := by
  unfold Rd at h ⊢
  rw [app_list, hx]
  refine um_pre (b := I[1]) (sl := true) ?_ (um_sign _ hs)
  have e : um I.data.toList false = um (I[1] :: (I.extract 2 I.size).data.toList) true := by
    rw [cons_two I h0, u8_eq (by decide) hb]
    exact um_slash _
  rw [h, e]
theorem Rd.nosign {W : List UInt8} {I O : ByteArray} (h : Rd W I O) (h0 : 1 < I.size) (hb : I[0].toNat = 92) (hs : mb I[1] = false) : um W false = none := by
  unfold Rd at h
  have e : um I.data.toList false = um (I[1] :: (I.extract 2 I.size).data.toList) true := by
    rw [cons_two I h0, u8_eq (by decide) hb]
    exact um_slash _
  rw [h, e, um_nosign _ hs]
  rfl
theorem Rd.done {W : List UInt8} {I O : ByteArray} (h : Rd W I O) (h0 : I.size = 0) : um W false = some O.data.toList := by
  unfold Rd at h
  have e : I.data.toList = [] := List.eq_nil_of_length_eq_zero (by rw [len_list]; exact h0)
  rw [h, e]
  simp [um_end]

/-- What is read, as values. -/
def uq (l : List UInt8) : Ending := match unq l with
  | some o => .returned (.tuple #[.string ⟨o.toArray⟩, .int .i64 0])
  | none => .returned (.tuple #[.string ⟨#[]⟩, .int .i64 22])
theorem uq_none {l : List UInt8} (h : unq l = none) : Ending.returned (.tuple #[.string ⟨#[]⟩, .int .i64 22]) = uq l := by unfold uq; rw [h]
theorem uq_some {l : List UInt8} {O : ByteArray} (h : unq l = some O.data.toList) : Ending.returned (.tuple #[.string O, .int .i64 0]) = uq l := by
  unfold uq; rw [h]
/-- The text between the quotes. -/
def mid (s : ByteArray) : ByteArray := s.extract 1 (s.size - 1)
theorem mid_size (s : ByteArray) : (mid s).size = s.size - 2 := by unfold mid; rw [ByteArray.size_extract]; omega
theorem unq_mid (s : ByteArray) (h : 2 ≤ s.size) (h0 : s[0].toNat = 34) (h1 : s[s.size - 1].toNat = 34) : unq s.data.toList = um (mid s).data.toList false := by
  unfold unq
  have e : (mid s).data.toList = (s.data.toList.drop 1).take (s.data.toList.length - 2) := by
    unfold mid
    rw [ByteArray.data_extract, Array.toList_extract, List.extract_eq_take_drop, len_list]
    rfl
  have g0 : s.data.toList.getD 0 0 = 34 := by
    have := gb_of s 0 (by omega)
    unfold gb at this
    rw [← UInt8.toNat_inj, ← this, h0]; rfl
  have g1 : s.data.toList.getD (s.data.toList.length - 1) 0 = 34 := by
    rw [len_list]
    have := gb_of s (s.size - 1) (by omega)
    unfold gb at this
    rw [← UInt8.toNat_inj, ← this, h1]; rfl
  rw [if_neg (by rw [g0, g1, len_list]; simp; omega), e]
theorem unq_bad (s : ByteArray) (h : s.size < 2 ∨ gb s 0 ≠ 34 ∨ gb s (s.size - 1) ≠ 34) : unq s.data.toList = none := by
  unfold unq
  rw [if_pos]
  rw [len_list]
  unfold gb at h
  rcases h with h | h | h
  · exact .inl h
  · exact .inr (.inl fun e => h (by rw [e]; rfl))
  · exact .inr (.inr fun e => h (by rw [e]; rfl))

set_option maxHeartbeats 2000000 in
theorem runquote_bad (s : ByteArray) (w : World) (hs : s.size ≤ 100000) (h : s.size < 2 ∨ gb s 0 ≠ 34 ∨ gb s (s.size - 1) ≠ 34) :
    Calls Tryd.prog 24 #[.string s] w fun e w' => e = uq s.data.toList ∧ w = w' := by
  have HU := Lib.hid (unq_bad s h)
  by_cases h1 : s.size < 2
  · have h1z : (s.size : Int) < 2 := by omega
    clear h
    go_enter Tryd.func24, Tryd.ntmps24
    go_wp2_with fail
    go_ret2
    exact ⟨uq_none HU.out, rfl⟩
  have h1z : ¬ (s.size : Int) < 2 := by omega
  have g0 := gb_of s 0 (by omega)
  have g1 := gb_of s (s.size - 1) (by omega)
  by_cases h2 : gb s 0 = 34
  · have q0 : (((s[0]'(by omega)).toNat : Int) != 34) = false := by simp; omega
    have q1 : (((s[s.size - 1]'(by omega)).toNat : Int) != 34) = true := by simp; omega
    have hx : s.size - 1 < s.size := by omega
    clear h g0 g1 h2
    go_enter Tryd.func24, Tryd.ntmps24
    go_wp2_with fail
    go_ret2
    exact ⟨uq_none HU.out, rfl⟩
  · have q0 : (((s[0]'(by omega)).toNat : Int) != 34) = true := by simp; omega
    have hx : 0 < s.size := by omega
    clear h g0 g1 h2
    go_enter Tryd.func24, Tryd.ntmps24
    go_wp2_with fail
    go_ret2
    exact ⟨uq_none HU.out, rfl⟩

set_option maxHeartbeats 4000000 in
theorem runquote_good (s : ByteArray) (w : World) (hs : s.size ≤ 100000) (h2 : 2 ≤ s.size) (h0 : gb s 0 = 34) (h1 : gb s (s.size - 1) = 34) :
    Calls Tryd.prog 24 #[.string s] w fun e w' => e = uq s.data.toList ∧ w = w' := by
  have g0 := gb_of s 0 (by omega)
  have g1 := gb_of s (s.size - 1) (by omega)
  have q0 : (((s[0]'(by omega)).toNat : Int) != 34) = false := by simp; omega
  have q1 : (((s[s.size - 1]'(by omega)).toNat : Int) != 34) = false := by simp; omega
  have hx : s.size - 1 < s.size := by omega
  have HU := Lib.hid (unq_mid s h2 (by omega) (by omega))
  have h1z : ¬ (s.size : Int) < 2 := by omega
  clear h0 h1 g0 g1
  have hms := mid_size s
  have HS : Rd (mid s).data.toList (mid s) ⟨#[]⟩ := by unfold Rd; simp
  have HM := Lib.hid hms
  clear hms
  go_enter Tryd.func24, Tryd.ntmps24
  go_wp2_with fail
  go_loopg [5, 6] s.size (fun kx o a wr => ∃ (I O : ByteArray), o = .string O ∧ a = .string I ∧ I.size ≤ kx ∧ I.size + O.size ≤ 100000 ∧ Hid (Rd (mid s).data.toList I O) ∧ Hid (w = wr))
  case atStart => exact ⟨mid s, _, rfl, rfl, by rw [HM.out]; omega, by rw [HM.out]; show _ + 0 ≤ _; omega, HS, rfl⟩
  case round =>
    clear HM HS q0 q1
    obtain ⟨I, O, rfl, rfl, hkx, hz, HR, HW⟩ := hrel
    obtain rfl := HW.out
    by_cases hlt : 0 < I.size
    · have hlz : (I.size : Int) > 0 := by omega
      have hr1 := rest_size I 1
      have hr2 := rest_size I 2
      by_cases h32 : (I[0]'hlt).toNat < 32
      · have c1 : ((I[0]'hlt).toNat : Int) < 32 := by omega
        have HF := Lib.hid (HR.out.low hlt (.inl h32))
        clear h32 hr1 hr2
        go_wp2_with fail
        go_ret2
        exact ⟨uq_none (HU.out.trans HF.out), rfl⟩
      have c1 : ¬ ((I[0]'hlt).toNat : Int) < 32 := by omega
      by_cases h34 : (I[0]'hlt).toNat = 34
      · have c2 : (((I[0]'hlt).toNat : Int) == 34) = true := by simp; omega
        have HF := Lib.hid (HR.out.low hlt (.inr h34))
        clear h32 h34 hr1 hr2
        go_wp2_with fail
        go_ret2
        exact ⟨uq_none (HU.out.trans HF.out), rfl⟩
      have c2 : (((I[0]'hlt).toNat : Int) == 34) = false := by simp; omega
      by_cases h92 : (I[0]'hlt).toNat = 92
      · have c3 : (((I[0]'hlt).toNat : Int) != 92) = false := by simp; omega
        by_cases h1 : 1 < I.size
        · have h1z : ¬ (I.size : Int) < 2 := by omega
          by_cases k110 : (I[1]'h1).toNat = 110
          · have d110 : (((I[1]'h1).toNat : Int) == 110) = true := by simp; omega
            have e1 := u8_eq (by decide) k110
            have HN := Lib.hid (HR.out.sign (X := ⟨#[10]⟩) h1 h92 (by rw [e1]; rfl) (by rw [e1]; rfl))
            have HI := Lib.hid hr2
            clear h32 h34 h92 k110 e1 hr1 hr2 
            go_wp2_with fail
            go_roundg (I.size - 2)
            case measure => omega
            case rel => exact ⟨_, _, rfl, rfl, by rw [HI.out]; exact Nat.le_refl _, by rw [HI.out, ByteArray.size_append]; show _ + (_ + 1) ≤ _; omega, HN.out, rfl⟩
          have d110 : (((I[1]'h1).toNat : Int) == 110) = false := by simp; omega
          by_cases k116 : (I[1]'h1).toNat = 116
          · have d116 : (((I[1]'h1).toNat : Int) == 116) = true := by simp; omega
            have e1 := u8_eq (by decide) k116
            have HN := Lib.hid (HR.out.sign (X := ⟨#[9]⟩) h1 h92 (by rw [e1]; rfl) (by rw [e1]; rfl))
            have HI := Lib.hid hr2
            clear h32 h34 h92 k116 e1 hr1 hr2 k110
            go_wp2_with fail
            go_roundg (I.size - 2)
            case measure => omega
            case rel => exact ⟨_, _, rfl, rfl, by rw [HI.out]; exact Nat.le_refl _, by rw [HI.out, ByteArray.size_append]; show _ + (_ + 1) ≤ _; omega, HN.out, rfl⟩
          have d116 : (((I[1]'h1).toNat : Int) == 116) = false := by simp; omega
          by_cases k34 : (I[1]'h1).toNat = 34
          · have d34 : (((I[1]'h1).toNat : Int) == 34) = true := by simp; omega
            have e1 := u8_eq (by decide) k34
            have HN := Lib.hid (HR.out.sign (X := ⟨#[34]⟩) h1 h92 (by rw [e1]; rfl) (by rw [e1]; rfl))
            have HI := Lib.hid hr2
            clear h32 h34 h92 k34 e1 hr1 hr2 k110 k116
            go_wp2_with fail
            go_roundg (I.size - 2)
            case measure => omega
            case rel => exact ⟨_, _, rfl, rfl, by rw [HI.out]; exact Nat.le_refl _, by rw [HI.out, ByteArray.size_append]; show _ + (_ + 1) ≤ _; omega, HN.out, rfl⟩
          have d34 : (((I[1]'h1).toNat : Int) == 34) = false := by simp; omega
          by_cases k92 : (I[1]'h1).toNat = 92
          · have d92 : (((I[1]'h1).toNat : Int) == 92) = true := by simp; omega
            have e1 := u8_eq (by decide) k92
            have HN := Lib.hid (HR.out.sign (X := ⟨#[92]⟩) h1 h92 (by rw [e1]; rfl) (by rw [e1]; rfl))
            have HI := Lib.hid hr2
            clear h32 h34 h92 k92 e1 hr1 hr2 k110 k116 k34
            go_wp2_with fail
            go_roundg (I.size - 2)
            case measure => omega
            case rel => exact ⟨_, _, rfl, rfl, by rw [HI.out]; exact Nat.le_refl _, by rw [HI.out, ByteArray.size_append]; show _ + (_ + 1) ≤ _; omega, HN.out, rfl⟩
          have d92 : (((I[1]'h1).toNat : Int) == 92) = false := by simp; omega
          have hsb : mb (I[1]'h1) = false := by
            simp only [mb, Bool.or_eq_false_iff, beq_eq_false_iff_ne, ne_eq, ← UInt8.toNat_inj]
            exact ⟨⟨⟨k110, k116⟩, k34⟩, k92⟩
          have HF := Lib.hid (HR.out.nosign h1 h92 hsb)
          clear h32 h34 h92 hr1 hr2 k110 k116 k34 k92 hsb
          go_wp2_with fail
          go_ret2
          exact ⟨uq_none (HU.out.trans HF.out), rfl⟩
        · have h1z : (I.size : Int) < 2 := by omega
          have HF := Lib.hid (HR.out.short (by omega) h92)
          clear h32 h34 h92 hr1 hr2
          go_wp2_with fail
          go_ret2
          exact ⟨uq_none (HU.out.trans HF.out), rfl⟩
      · have c3 : (((I[0]'hlt).toNat : Int) != 92) = true := by simp; omega
        have HN := Lib.hid (HR.out.byte hlt h92 (by omega))
        have HI := Lib.hid hr1
        have he : (I.extract 0 1).size = 1 := by rw [ByteArray.size_extract]; omega
        have HE := Lib.hid he
        clear h32 h34 h92 hr1 hr2 he
        go_wp2_with fail
        go_roundg (I.size - 1)
        case measure => omega
        case rel => exact ⟨_, _, rfl, rfl, by rw [HI.out]; exact Nat.le_refl _, by rw [HI.out, ByteArray.size_append, HE.out]; omega, HN.out, rfl⟩
    · have hlz : ¬ (I.size : Int) > 0 := by omega
      have HF := Lib.hid (HR.out.done (by omega))
      go_wp2_with fail
      go_ret2
      exact ⟨uq_some (HU.out.trans HF.out), rfl⟩
theorem runquote_any (s : ByteArray) (w : World) (hs : s.size ≤ 100000) :
    Calls Tryd.prog 24 #[.string s] w fun e w' => e = uq s.data.toList ∧ w = w' := by
  by_cases h : s.size < 2 ∨ gb s 0 ≠ 34 ∨ gb s (s.size - 1) ≠ 34
  · exact runquote_bad s w hs h
  · exact runquote_good s w hs (by omega) (by omega) (by omega)
end Go.Proofs.YtpbheelocigciaaDoor
