/- Contracts: the document's strings, written and read. -/
import Derived.Test.YtpbheelocigciaaDoorMQ
import Derived.Test.YtpbheelocigciaaDoorMD
import Derived.Deep.LoopGhost
namespace Go.Proofs.YtpbheelocigciaaDoor
open Go.RowKit

theorem bytes_ext {a b : ByteArray} (h : a.data.toList = b.data.toList) : a = b := by
  cases a; cases b
  simp only [ByteArray.mk.injEq]
  exact Array.toList_inj.1 h
theorem app_list (a b : ByteArray) : (a ++ b).data.toList = a.data.toList ++ b.data.toList := by rw [ByteArray.data_append, Array.toList_append]
theorem len_list (a : ByteArray) : a.data.toList.length = a.size := by simp
theorem take_next (s : ByteArray) (k : Nat) (h : k < s.size) : s.data.toList.take (k + 1) = s.data.toList.take k ++ [s[k]] := by
  rw [List.take_succ_eq_append_getElem (by simpa using h)]; rfl
theorem ext_one (s : ByteArray) (k : Nat) (h : k < s.size) : (s.extract k (k + 1)).data.toList = [s[k]] := by
  rw [ByteArray.data_extract, Array.toList_extract, List.extract_eq_take_drop, List.drop_eq_getElem_cons (by simpa using h)]
  simp
  rfl
theorem u8_eq {b : UInt8} {n : Nat} (hn : n < 256) (h : b.toNat = n) : b = UInt8.ofNat n := by
  apply UInt8.toNat_inj.1
  rw [h, UInt8.toNat_ofNat']
  omega

/-- How far a text has been written. -/
def Wr (s : ByteArray) (k : Nat) (O : ByteArray) : Prop := O.data.toList = 34 :: (s.data.toList.take k).flatMap esc
theorem Wr.next {s O X : ByteArray} {k : Nat} (h : Wr s k O) (hk : k < s.size) (hx : X.data.toList = esc s[k]) : Wr s (k + 1) (O ++ X) := by
  unfold Wr at h ⊢
  rw [app_list, h, hx, take_next s k hk, flat_snoc]
  rfl
theorem Wr.size {s O : ByteArray} {k : Nat} (h : Wr s k O) (hk : k ≤ s.size) : O.size ≤ 2 * k + 1 := by
  have h1 := congrArg List.length h
  have h2 := flat_len (s.data.toList.take k)
  rw [List.length_take, len_list] at h2
  rw [len_list, List.length_cons] at h1
  omega

set_option maxHeartbeats 2000000 in
theorem rquote_any (s : ByteArray) (w : World) (hs : s.size ≤ 100000) :
    Calls Tryd.prog 26 #[.string s] w fun e w' => e = .returned (.string ⟨(quoL s.data.toList).toArray⟩) ∧ w = w' := by
  go_enter Tryd.func26, Tryd.ntmps26
  go_wp2_with fail
  go_loopg [3, 4] s.size (fun kx o a wr => ∃ (k : Nat) (O : ByteArray), o = .string O ∧ a = .int .i64 k ∧ k ≤ s.size ∧ s.size - k ≤ kx ∧ O.size ≤ 200001 ∧ Hid (Wr s k O) ∧ Hid (w = wr))
  case atStart => exact ⟨0, _, rfl, rfl, by omega, by omega, by decide, rfl, rfl⟩
  case round =>
    obtain ⟨k, O, rfl, rfl, hk, hkx, hO, HO, HW⟩ := hrel
    obtain rfl := HW.out
    by_cases hlt : k < s.size
    · have hlz : (k : Int) < (s.size : Int) := by omega
      have hb : (s[k]'hlt).toNat < 256 := UInt8.toNat_lt _
      by_cases h1 : (s[k]'hlt).toNat = 10
      · have q1 : (((s[k]'hlt).toNat : Int) == 10) = true := by simp; omega
        have e1 := u8_eq (by decide) h1
        have HN := Lib.hid (HO.out.next (X := ⟨#[92, 110]⟩) hlt (by rw [e1]; rfl))
        have hz := HN.out.size hlt
        clear hb h1 e1
        go_wp2_with fail
        go_roundg (s.size - (k + 1))
        case measure => omega
        case rel => exact ⟨k + 1, _, rfl, by go_num, by omega, by omega, by omega, HN.out, rfl⟩
      have q1 : (((s[k]'hlt).toNat : Int) == 10) = false := by simp; omega
      by_cases h2 : (s[k]'hlt).toNat = 9
      · have q2 : (((s[k]'hlt).toNat : Int) == 9) = true := by simp; omega
        have e1 := u8_eq (by decide) h2
        have HN := Lib.hid (HO.out.next (X := ⟨#[92, 116]⟩) hlt (by rw [e1]; rfl))
        have hz := HN.out.size hlt
        clear hb h1 h2 e1
        go_wp2_with fail
        go_roundg (s.size - (k + 1))
        case measure => omega
        case rel => exact ⟨k + 1, _, rfl, by go_num, by omega, by omega, by omega, HN.out, rfl⟩
      have q2 : (((s[k]'hlt).toNat : Int) == 9) = false := by simp; omega
      by_cases h3 : (s[k]'hlt).toNat = 34
      · have q3 : (((s[k]'hlt).toNat : Int) == 34) = true := by simp; omega
        have e1 := u8_eq (by decide) h3
        have HN := Lib.hid (HO.out.next (X := ⟨#[92, 34]⟩) hlt (by rw [e1]; rfl))
        have hz := HN.out.size hlt
        clear hb h1 h2 h3 e1
        go_wp2_with fail
        go_roundg (s.size - (k + 1))
        case measure => omega
        case rel => exact ⟨k + 1, _, rfl, by go_num, by omega, by omega, by omega, HN.out, rfl⟩
      have q3 : (((s[k]'hlt).toNat : Int) == 34) = false := by simp; omega
      by_cases h4 : (s[k]'hlt).toNat = 92
      · have q4 : (((s[k]'hlt).toNat : Int) == 92) = true := by simp; omega
        have e1 := u8_eq (by decide) h4
        have HN := Lib.hid (HO.out.next (X := ⟨#[92, 92]⟩) hlt (by rw [e1]; rfl))
        have hz := HN.out.size hlt
        clear hb h1 h2 h3 h4 e1
        go_wp2_with fail
        go_roundg (s.size - (k + 1))
        case measure => omega
        case rel => exact ⟨k + 1, _, rfl, by go_num, by omega, by omega, by omega, HN.out, rfl⟩
      have q4 : (((s[k]'hlt).toNat : Int) == 92) = false := by simp; omega
      have hsb : sb (s[k]'hlt) = false := by
        simp only [sb, Bool.or_eq_false_iff, beq_eq_false_iff_ne, ne_eq, ← UInt8.toNat_inj]
        exact ⟨⟨⟨h1, h2⟩, h3⟩, h4⟩
      have HN := Lib.hid (HO.out.next (X := s.extract k (k + 1)) hlt (by rw [ext_one s k hlt]; unfold esc; rw [hsb]; rfl))
      have hz := HN.out.size hlt
      clear hb h1 h2 h3 h4 hsb
      go_wp2_with fail
      go_roundg (s.size - (k + 1))
      case measure => omega
      case rel => exact ⟨k + 1, _, rfl, by go_num, by omega, by omega, by omega, HN.out, rfl⟩
    · obtain rfl : k = s.size := by omega
      have hf : O ++ ⟨#[34]⟩ = ⟨(quoL s.data.toList).toArray⟩ := bytes_ext (by
        rw [app_list, HO.out, List.take_of_length_le (by rw [len_list]; exact Nat.le_refl _)]
        simp [quoL])
      have HF := Lib.hid hf
      have hlz : ¬ (s.size : Int) < (s.size : Int) := by omega
      clear hf hlt
      go_wp2_with fail
      go_ret
      exact ⟨congrArg (fun b => Ending.returned (Value.string b)) HF.out, rfl⟩
end Go.Proofs.YtpbheelocigciaaDoor
