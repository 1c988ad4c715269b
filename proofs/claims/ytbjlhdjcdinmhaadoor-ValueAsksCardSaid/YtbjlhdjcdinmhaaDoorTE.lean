/- Contracts: the document's digits (f62, f43) and strings (f44). -/
import Derived.Test.YtbjlhdjcdinmhaaDoorRN
import Derived.Deep.LoopGhost
import Derived.IntWalk
namespace Go.Proofs.YtbjlhdjcdinmhaaDoor
open Go.RowKit Go.Op
namespace Vm
theorem bytes_ext {a b : ByteArray} (h : a.data.toList = b.data.toList) : a = b := ba_of h
theorem app_list (a b : ByteArray) : (a ++ b).data.toList = a.data.toList ++ b.data.toList := by rw [ByteArray.data_append, Array.toList_append]
theorem cells1 {k : Nat} (hk : k < 10) : Lib.byteCells [UInt8.ofNat (48 + k)] = [.int .u8 (48 + (k : Int))] := by
  have e : (UInt8.ofNat (48 + k)).toNat = 48 + k := by rw [UInt8.toNat_ofNat']; omega
  simp [Lib.byteCells]
  omega
/-- A digit. -/
def dgt (k : Nat) : ByteArray := ⟨#[UInt8.ofNat (48 + k)]⟩
theorem dgt_list (k : Nat) : (dgt k).data.toList = [UInt8.ofNat (48 + k)] := rfl
set_option maxHeartbeats 2000000 in
set_option maxRecDepth 100000 in
theorem digit_any (k : Nat) (hk : k < 10) (w : World) : Calls Tryd.prog 62 #[.int .i64 (k : Int)] w fun e w' => e = .returned (.string (dgt k)) ∧ Below w.heap.size w w' := by
  have hw : IntKind.i64.wrap (48 + (k : Int)) = 48 + (k : Int) := by rw [IntKind.wrap_i64]; omega
  have hw2 : IntKind.u8.wrap (48 + (k : Int)) = 48 + (k : Int) := by rw [IntKind.wrap_u8]; omega
  have hc0 := Qt.conv_own (Qt.own_built w 0 [UInt8.ofNat (48 + k)] (Nat.zero_le _) (by simp) #[.int .u8 (48 + (k : Int))] (cells1 hk).symm)
  simp only [List.length_cons, List.length_nil] at hc0
  have hc : (convert 70 9 (.slice (some ⟨w.heap.size, 0, none⟩) 1 1)).run Tryd.prog (w.alloc (.cells #[.int .u8 (48 + (k : Int))] 5)) = .ok (.string (dgt k)) (w.alloc (.cells #[.int .u8 (48 + (k : Int))] 5)) := hc0
  clear hc0
  have HB := Lib.hid (bel1 w (.cells #[.int .u8 (48 + (k : Int))] 5))
  go_enter Tryd.func62, Tryd.ntmps62
  go_wp2_with fail
  (first | go_ret | go_ret2)
  exact ⟨rfl, HB.out⟩
/-- A numeral as a text. -/
def decS (n : Int) : ByteArray := ⟨(Lib.itoa n).toArray⟩
theorem decS_list (n : Int) : (decS n).data.toList = Lib.itoa n := by simp [decS]
theorem decS_size {n : Int} (h0 : -9223372036854775808 ≤ n) (h1 : n ≤ 9223372036854775807) : (decS n).size ≤ 21 := by
  have := Lib.itoa_length_le n h0 h1
  rw [← decS_list] at this
  rw [← show (decS n).data.toList.length = (decS n).size from Array.length_toList]
  exact this
theorem itoa_nn (u : Nat) : Lib.itoa (u : Int) = Lib.decDigits u := by unfold Lib.itoa; rw [if_neg (by omega)]; simp
theorem itoa_ng (u : Nat) (h : 1 ≤ u) : Lib.itoa (-(u : Int)) = 45 :: Lib.decDigits u := by unfold Lib.itoa; rw [if_pos (by omega)]; simp
theorem dec_small {u : Nat} (h : u < 10) : Lib.decDigits u = [UInt8.ofNat (48 + u)] := by rw [Lib.decDigits, dif_pos h]
theorem dec_big {u : Nat} (h : ¬ u < 10) : Lib.decDigits u = Lib.decDigits (u / 10) ++ [UInt8.ofNat (48 + u % 10)] := by rw [Lib.decDigits, dif_neg h]
set_option maxHeartbeats 2000000 in
set_option maxRecDepth 100000 in
theorem decimal_nn : ∀ (u : Nat), u ≤ 9223372036854775807 → ∀ (w : World), Calls Tryd.prog 43 #[.int .i64 (u : Int)] w fun e w' => e = .returned (.string (decS u)) ∧ Below w.heap.size w w' := by
  intro u
  induction u using Nat.strongRecOn with
  | ind u ih =>
    intro hu w
    have n0 : ¬ (u : Int) < 0 := by omega
    by_cases h : u < 10
    · have n1 : (u : Int) < 10 := by omega
      have C := Lib.hid (digit_any u h w)
      have HE : Hid (dgt u = decS u) := by
        unfold Hid
        refine bytes_ext ?_
        rw [decS_list, itoa_nn, dec_small h, dgt_list]
      clear ih h hu
      go_enter Tryd.func43, Tryd.ntmps43
      go_wp2_with fail
      refine C.out.mono ?_
      rintro e w2 ⟨rfl, h2⟩
      have HB := Lib.hid h2
      clear h2 C
      go_wp2_with fail
      (first | go_ret | go_ret2)
      exact ⟨congrArg (fun b => Ending.returned (Value.string b)) HE.out, HB.out⟩
    · have n1 : ¬ (u : Int) < 10 := by omega
      obtain ⟨d, hd⟩ : ∃ d, d = u / 10 := ⟨_, rfl⟩
      obtain ⟨r, hr⟩ : ∃ r, r = u % 10 := ⟨_, rfl⟩
      have q1 : (u : Int).tdiv 10 = (d : Int) := by rw [hd]; rfl
      have q2 : (u : Int).tmod 10 = (r : Int) := by rw [hr]; rfl
      have q3 : IntKind.i64.wrap (d : Int) = (d : Int) := by rw [IntKind.wrap_i64]; omega
      have q4 : IntKind.i64.wrap (r : Int) = (r : Int) := by rw [IntKind.wrap_i64]; omega
      have C1 : Hid (∀ w, Calls Tryd.prog 43 #[.int .i64 (d : Int)] w fun e w' => e = .returned (.string (decS d)) ∧ Below w.heap.size w w') := ih d (by omega) (by omega)
      have C2 : Hid (∀ w, Calls Tryd.prog 62 #[.int .i64 (r : Int)] w fun e w' => e = .returned (.string (dgt r)) ∧ Below w.heap.size w w') := digit_any r (by omega)
      have HE : Hid (decS d ++ (dgt r) = decS u) := by
        unfold Hid
        refine bytes_ext ?_
        rw [app_list, decS_list, decS_list, itoa_nn, itoa_nn, dec_big h, hd, hr, dgt_list]
      have hz := decS_size (n := (d : Int)) (by omega) (by omega)
      have hy : (dgt r).size ≤ 1 := Nat.le_refl 1
      obtain ⟨y, hyy⟩ : ∃ y, y = dgt r := ⟨_, rfl⟩
      rw [← hyy] at HE C2 hy
      obtain ⟨x, hx⟩ : ∃ x, x = decS d := ⟨_, rfl⟩
      rw [← hx] at hz HE C1
      clear ih h hu hd hr hx hyy
      go_enter Tryd.func43, Tryd.ntmps43
      go_wp2_with fail
      refine (C1.out _).mono ?_
      rintro e w2 ⟨rfl, h2⟩
      have HB2 := Lib.hid h2
      clear h2
      go_wp2_with fail
      refine (C2.out _).mono ?_
      rintro e w3 ⟨rfl, h3⟩
      have HB := Lib.hid (HB2.out.trans (h3.mono HB2.out.size))
      clear h3
      go_wp2_with fail
      (first | go_ret | go_ret2)
      exact ⟨congrArg (fun b => Ending.returned (Value.string b)) HE.out, HB.out⟩
set_option maxHeartbeats 2000000 in
set_option maxRecDepth 100000 in
theorem decimal_ng : ∀ (u : Nat), 1 ≤ u → u ≤ 9223372036854775808 → ∀ (w : World), Calls Tryd.prog 43 #[.int .i64 (-(u : Int))] w fun e w' => e = .returned (.string (decS (-(u : Int)))) ∧ Below w.heap.size w w' := by
  intro u
  induction u using Nat.strongRecOn with
  | ind u ih =>
    intro h1 hu w
    have n0 : -(u : Int) < 0 := by omega
    obtain ⟨d, hd⟩ : ∃ d, d = u / 10 := ⟨_, rfl⟩
    obtain ⟨r, hr⟩ : ∃ r, r = u % 10 := ⟨_, rfl⟩
    have q1 : (-(u : Int)).tdiv 10 = -(d : Int) := by rw [Int.neg_tdiv, hd]; rfl
    have q2 : (-(u : Int)).tmod 10 = -(r : Int) := by rw [Int.neg_tmod, hr]; rfl
    have q3 : IntKind.i64.wrap (-(d : Int)) = -(d : Int) := by rw [IntKind.wrap_i64]; omega
    have q4 : IntKind.i64.wrap (-(r : Int)) = -(r : Int) := by rw [IntKind.wrap_i64]; omega
    have q5 : IntKind.i64.wrap (r : Int) = (r : Int) := by rw [IntKind.wrap_i64]; omega
    by_cases h : u < 10
    · have hd0 : d = 0 := by omega
      subst hd0
      have q6 : IntKind.i64.wrap (u : Int) = (u : Int) := by rw [IntKind.wrap_i64]; omega
      have C := Lib.hid (digit_any u h w)
      have HE : Hid ((⟨#[45]⟩ : ByteArray) ++ dgt u = decS (-(u : Int))) := by
        unfold Hid
        refine bytes_ext ?_
        rw [app_list, decS_list, itoa_ng u h1, dec_small h, dgt_list]
        rfl
      clear ih h hu hd hr
      go_enter Tryd.func43, Tryd.ntmps43
      go_wp2_with fail
      refine C.out.mono ?_
      rintro e w2 ⟨rfl, h2⟩
      have HB := Lib.hid h2
      clear h2 C
      go_wp2_with fail
      (first | go_ret | go_ret2)
      exact ⟨congrArg (fun b => Ending.returned (Value.string b)) HE.out, HB.out⟩
    · have n1 : (-(d : Int) == 0) = false := by rw [beq_eq_false_iff_ne]; omega
      have C1 : Hid (∀ w, Calls Tryd.prog 43 #[.int .i64 (-(d : Int))] w fun e w' => e = .returned (.string (decS (-(d : Int)))) ∧ Below w.heap.size w w') := ih d (by omega) (by omega) (by omega)
      have C2 : Hid (∀ w, Calls Tryd.prog 62 #[.int .i64 (r : Int)] w fun e w' => e = .returned (.string (dgt r)) ∧ Below w.heap.size w w') := digit_any r (by omega)
      have HE : Hid (decS (-(d : Int)) ++ (dgt r) = decS (-(u : Int))) := by
        unfold Hid
        refine bytes_ext ?_
        rw [app_list, decS_list, decS_list, itoa_ng u h1, itoa_ng d (by omega), dec_big h, hd, hr, dgt_list]
        rfl
      have hz := decS_size (n := -(d : Int)) (by omega) (by omega)
      have hy : (dgt r).size ≤ 1 := Nat.le_refl 1
      obtain ⟨y, hyy⟩ : ∃ y, y = dgt r := ⟨_, rfl⟩
      rw [← hyy] at HE C2 hy
      obtain ⟨x, hx⟩ : ∃ x, x = decS (-(d : Int)) := ⟨_, rfl⟩
      rw [← hx] at hz HE C1
      clear ih h hu hd hr hx hyy
      go_enter Tryd.func43, Tryd.ntmps43
      go_wp2_with fail
      refine (C1.out _).mono ?_
      rintro e w2 ⟨rfl, h2⟩
      have HB2 := Lib.hid h2
      clear h2
      go_wp2_with fail
      refine (C2.out _).mono ?_
      rintro e w3 ⟨rfl, h3⟩
      have HB := Lib.hid (HB2.out.trans (h3.mono HB2.out.size))
      clear h3
      go_wp2_with fail
      (first | go_ret | go_ret2)
      exact ⟨congrArg (fun b => Ending.returned (Value.string b)) HE.out, HB.out⟩
theorem decimal_any (n : Int) (h0 : -9223372036854775808 ≤ n) (h1 : n ≤ 9223372036854775807) (w : World) : Calls Tryd.prog 43 #[.int .i64 n] w fun e w' => e = .returned (.string (decS n)) ∧ Below w.heap.size w w' := by
  by_cases h : 0 ≤ n
  · obtain ⟨u, rfl⟩ : ∃ u : Nat, n = u := ⟨n.toNat, by omega⟩
    exact decimal_nn u (by omega) w
  · obtain ⟨u, rfl⟩ : ∃ u : Nat, n = -(u : Int) := ⟨n.natAbs, by omega⟩
    exact decimal_ng u (by omega) (by omega) w
end Vm
namespace Qt
open Vm
theorem ext_one (s : ByteArray) (k : Nat) (h : k < s.size) : (s.extract k (k + 1)).data.toList = [s[k]] := by
  rw [ByteArray.data_extract, Array.toList_extract, List.extract_eq_take_drop, List.drop_eq_getElem_cons (by simpa using h)]
  simp
  rfl
theorem u8_eq {b : UInt8} {n : Nat} (hn : n < 256) (h : b.toNat = n) : b = UInt8.ofNat n := by
  apply UInt8.toNat_inj.1
  rw [h, UInt8.toNat_ofNat']
  omega
/-- How far a text has been written. -/
def Wr (s : ByteArray) (k : Nat) (O : ByteArray) : Prop := O.data.toList = 34 :: (s.data.toList.take k).flatMap esc
theorem Wr.next {s O X : ByteArray} {k : Nat} (h : Wr s k O) (hk : k < s.size) (hx : X.data.toList = esc s[k]) : Wr s (k + 1) (O ++ X) := by
  unfold Wr at h ⊢
  rw [app_list, h, hx, take_nextB s k hk, flat_snoc]
  rfl
theorem Wr.size {s O : ByteArray} {k : Nat} (h : Wr s k O) (hk : k ≤ s.size) : O.size ≤ 2 * k + 1 := by
  have h1 := congrArg List.length h
  have h2 := flat_len (s.data.toList.take k)
  rw [List.length_take, len_list] at h2
  rw [len_list, List.length_cons] at h1
  omega

set_option maxHeartbeats 2000000 in
theorem rquote_any (s : ByteArray) (w : World) (hs : s.size ≤ 100000) :
    Calls Tryd.prog 44 #[.string s] w fun e w' => e = .returned (.string ⟨(quoL s.data.toList).toArray⟩) ∧ w = w' := by
  go_enter Tryd.func44, Tryd.ntmps44
  go_wp2_with fail
  go_loopg [3, 4] s.size (fun kx o a wr => ∃ (k : Nat) (O : ByteArray), o = .string O ∧ a = .int .i64 k ∧ k ≤ s.size ∧ s.size - k ≤ kx ∧ O.size ≤ 200001 ∧ Hid (Wr s k O) ∧ Hid (w = wr))
  case atStart => exact ⟨0, _, rfl, rfl, by omega, by omega, by decide, rfl, rfl⟩
  case round =>
    obtain ⟨k, O, rfl, rfl, hk, hkx, hO, HO, HW⟩ := hrel
    obtain rfl := HW.out
    by_cases hlt : k < s.size
    · have hlz : (k : Int) < (s.size : Int) := by omega
      have hb : (s[k]'hlt).toNat < 256 := UInt8.toNat_lt _
      by_cases h1 : (s[k]'hlt).toNat = 10
      · have q1 : (((s[k]'hlt).toNat : Int) == 10) = true := by simp; omega
        have e1 := u8_eq (by decide) h1
        have HN := Lib.hid (HO.out.next (X := ⟨#[92, 110]⟩) hlt (by rw [e1]; rfl))
        have hz := HN.out.size hlt
        clear hb h1 e1
        go_wp2_with fail
        go_roundg (s.size - (k + 1))
        case measure => omega
        case rel => exact ⟨k + 1, _, rfl, by go_num, by omega, by omega, by omega, HN.out, rfl⟩
      have q1 : (((s[k]'hlt).toNat : Int) == 10) = false := by simp; omega
      by_cases h2 : (s[k]'hlt).toNat = 9
      · have q2 : (((s[k]'hlt).toNat : Int) == 9) = true := by simp; omega
        have e1 := u8_eq (by decide) h2
        have HN := Lib.hid (HO.out.next (X := ⟨#[92, 116]⟩) hlt (by rw [e1]; rfl))
        have hz := HN.out.size hlt
        clear hb h1 h2 e1
        go_wp2_with fail
        go_roundg (s.size - (k + 1))
        case measure => omega
        case rel => exact ⟨k + 1, _, rfl, by go_num, by omega, by omega, by omega, HN.out, rfl⟩
      have q2 : (((s[k]'hlt).toNat : Int) == 9) = false := by simp; omega
      by_cases h3 : (s[k]'hlt).toNat = 34
      · have q3 : (((s[k]'hlt).toNat : Int) == 34) = true := by simp; omega
        have e1 := u8_eq (by decide) h3
        have HN := Lib.hid (HO.out.next (X := ⟨#[92, 34]⟩) hlt (by rw [e1]; rfl))
        have hz := HN.out.size hlt
        clear hb h1 h2 h3 e1
        go_wp2_with fail
        go_roundg (s.size - (k + 1))
        case measure => omega
        case rel => exact ⟨k + 1, _, rfl, by go_num, by omega, by omega, by omega, HN.out, rfl⟩
      have q3 : (((s[k]'hlt).toNat : Int) == 34) = false := by simp; omega
      by_cases h4 : (s[k]'hlt).toNat = 92
      · have q4 : (((s[k]'hlt).toNat : Int) == 92) = true := by simp; omega
        have e1 := u8_eq (by decide) h4
        have HN := Lib.hid (HO.out.next (X := ⟨#[92, 92]⟩) hlt (by rw [e1]; rfl))
        have hz := HN.out.size hlt
        clear hb h1 h2 h3 h4 e1
        go_wp2_with fail
        go_roundg (s.size - (k + 1))
        case measure => omega
        case rel => exact ⟨k + 1, _, rfl, by go_num, by omega, by omega, by omega, HN.out, rfl⟩
      have q4 : (((s[k]'hlt).toNat : Int) == 92) = false := by simp; omega
      have hsb : sb (s[k]'hlt) = false := by
        simp only [sb, Bool.or_eq_false_iff, beq_eq_false_iff_ne, ne_eq, ← UInt8.toNat_inj]
        exact ⟨⟨⟨h1, h2⟩, h3⟩, h4⟩
      have HN := Lib.hid (HO.out.next (X := s.extract k (k + 1)) hlt (by rw [ext_one s k hlt]; unfold esc; rw [hsb]; rfl))
      have hz := HN.out.size hlt
      clear hb h1 h2 h3 h4 hsb
      go_wp2_with fail
      go_roundg (s.size - (k + 1))
      case measure => omega
      case rel => exact ⟨k + 1, _, rfl, by go_num, by omega, by omega, by omega, HN.out, rfl⟩
    · obtain rfl : k = s.size := by omega
      have hf : O ++ ⟨#[34]⟩ = ⟨(quoL s.data.toList).toArray⟩ := bytes_ext (by
        rw [app_list, HO.out, List.take_of_length_le (by rw [len_list]; exact Nat.le_refl _)]
        simp [quoL])
      have HF := Lib.hid hf
      have hlz : ¬ (s.size : Int) < (s.size : Int) := by omega
      clear hf hlt
      go_wp2_with fail
      go_ret
      exact ⟨congrArg (fun b => Ending.returned (Value.string b)) HF.out, rfl⟩
end Qt
end Go.Proofs.YtbjlhdjcdinmhaaDoor
