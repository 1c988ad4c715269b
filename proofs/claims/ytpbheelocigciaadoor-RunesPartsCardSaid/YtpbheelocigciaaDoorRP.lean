/- Contracts: a character's bytes, by the document's answer. -/
import Derived.Test.YtpbheelocigciaaDoorAR
namespace Go.Proofs.YtpbheelocigciaaDoor
open Go.RowKit
open Go.Lib (encodeRune runeCells)

theorem conv_built (w : World) (l : List UInt8) (n : Nat) (cs : Array Value) (hn : l.length = n) (hm : n ≤ 1000) (hcs : cs.toList = Lib.byteCells l) :
    (convert 55 9 (.slice (some ⟨w.heap.size, 0, none⟩) n n)).run Tryd.prog (w.alloc (.cells cs 5)) = .ok (.string ⟨l.toArray⟩) (w.alloc (.cells cs 5)) := by
  subst hn
  exact conv_own (own_built w 0 l (Nat.zero_le _) hm cs hcs)

set_option maxHeartbeats 4000000 in
set_option maxRecDepth 100000 in
theorem rput_one (r : Int) (h0 : 0 ≤ r) (h1 : r ≤ 127) (w : World) : Calls Tryd.prog 21 #[.int .i64 r] w fun e w' => e = .returned (.string ⟨(encodeRune r).toArray⟩) ∧ Below w.heap.size w w' := by
  have hz : Lib.encodeRuneZ r = [r] := Lib.encodeRuneZ_one h0 h1
  have hc := conv_built w (encodeRune r) 1 #[.int .u8 (r)] (by rw [enc_len, hz]; rfl) (by omega) (by rw [cells_enc hz]; rfl)
  obtain ⟨q, hq⟩ : ∃ q, (⟨(encodeRune r).toArray⟩ : ByteArray) = q := ⟨_, rfl⟩
  rw [hq] at hc ⊢
  clear hz hq
  go_enter Tryd.func21, Tryd.ntmps21
  go_wp2
  go_ret
  exact ⟨rfl, (Below.refl _ _).alloc (Nat.le_refl _) _⟩

set_option maxHeartbeats 4000000 in
set_option maxRecDepth 100000 in
theorem rput_two (r : Int) (h0 : 128 ≤ r) (h1 : r ≤ 2047) (w : World) : Calls Tryd.prog 21 #[.int .i64 r] w fun e w' => e = .returned (.string ⟨(encodeRune r).toArray⟩) ∧ Below w.heap.size w w' := by
  have hz : Lib.encodeRuneZ r = [192 + r / 64, 128 + r % 64] := Lib.encodeRuneZ_two h0 h1
  have hc := conv_built w (encodeRune r) 2 #[.int .u8 (192 + r / 64), .int .u8 (128 + r % 64)] (by rw [enc_len, hz]; rfl) (by omega) (by rw [cells_enc hz]; rfl)
  obtain ⟨q, hq⟩ : ∃ q, (⟨(encodeRune r).toArray⟩ : ByteArray) = q := ⟨_, rfl⟩
  rw [hq] at hc ⊢
  clear hz hq
  go_enter Tryd.func21, Tryd.ntmps21
  go_wp2
  go_ret
  exact ⟨rfl, (Below.refl _ _).alloc (Nat.le_refl _) _⟩

set_option maxHeartbeats 4000000 in
set_option maxRecDepth 100000 in
theorem rput_three_lo (r : Int) (h0 : 2048 ≤ r) (h1 : r < 55296) (w : World) : Calls Tryd.prog 21 #[.int .i64 r] w fun e w' => e = .returned (.string ⟨(encodeRune r).toArray⟩) ∧ Below w.heap.size w w' := by
  have hz : Lib.encodeRuneZ r = [224 + r / 4096, 128 + r / 64 % 64, 128 + r % 64] := Lib.encodeRuneZ_three (.inl ⟨h0, h1⟩)
  have hc := conv_built w (encodeRune r) 3 #[.int .u8 (224 + r / 4096), .int .u8 (128 + r / 64 % 64), .int .u8 (128 + r % 64)] (by rw [enc_len, hz]; rfl) (by omega) (by rw [cells_enc hz]; rfl)
  obtain ⟨q, hq⟩ : ∃ q, (⟨(encodeRune r).toArray⟩ : ByteArray) = q := ⟨_, rfl⟩
  rw [hq] at hc ⊢
  clear hz hq
  go_enter Tryd.func21, Tryd.ntmps21
  go_wp2
  go_ret
  exact ⟨rfl, (Below.refl _ _).alloc (Nat.le_refl _) _⟩

set_option maxHeartbeats 4000000 in
set_option maxRecDepth 100000 in
theorem rput_three_hi (r : Int) (h0 : 57344 ≤ r) (h1 : r ≤ 65535) (w : World) : Calls Tryd.prog 21 #[.int .i64 r] w fun e w' => e = .returned (.string ⟨(encodeRune r).toArray⟩) ∧ Below w.heap.size w w' := by
  have hz : Lib.encodeRuneZ r = [224 + r / 4096, 128 + r / 64 % 64, 128 + r % 64] := Lib.encodeRuneZ_three (.inr ⟨by omega, h1⟩)
  have hc := conv_built w (encodeRune r) 3 #[.int .u8 (224 + r / 4096), .int .u8 (128 + r / 64 % 64), .int .u8 (128 + r % 64)] (by rw [enc_len, hz]; rfl) (by omega) (by rw [cells_enc hz]; rfl)
  obtain ⟨q, hq⟩ : ∃ q, (⟨(encodeRune r).toArray⟩ : ByteArray) = q := ⟨_, rfl⟩
  rw [hq] at hc ⊢
  clear hz hq
  go_enter Tryd.func21, Tryd.ntmps21
  go_wp2
  go_ret
  exact ⟨rfl, (Below.refl _ _).alloc (Nat.le_refl _) _⟩

set_option maxHeartbeats 4000000 in
set_option maxRecDepth 100000 in
theorem rput_four (r : Int) (h0 : 65536 ≤ r) (h1 : r ≤ 1114111) (w : World) : Calls Tryd.prog 21 #[.int .i64 r] w fun e w' => e = .returned (.string ⟨(encodeRune r).toArray⟩) ∧ Below w.heap.size w w' := by
  have hz : Lib.encodeRuneZ r = [240 + r / 262144, 128 + r / 4096 % 64, 128 + r / 64 % 64, 128 + r % 64] := Lib.encodeRuneZ_four h0 h1
  have hc := conv_built w (encodeRune r) 4 #[.int .u8 (240 + r / 262144), .int .u8 (128 + r / 4096 % 64), .int .u8 (128 + r / 64 % 64), .int .u8 (128 + r % 64)] (by rw [enc_len, hz]; rfl) (by omega) (by rw [cells_enc hz]; rfl)
  obtain ⟨q, hq⟩ : ∃ q, (⟨(encodeRune r).toArray⟩ : ByteArray) = q := ⟨_, rfl⟩
  rw [hq] at hc ⊢
  clear hz hq
  go_enter Tryd.func21, Tryd.ntmps21
  go_wp2
  go_ret
  exact ⟨rfl, (Below.refl _ _).alloc (Nat.le_refl _) _⟩

set_option maxHeartbeats 4000000 in
set_option maxRecDepth 100000 in
theorem rput_bad_neg (r : Int) (_h0 : -2147483648 ≤ r) (h1 : r < 0) (w : World) : Calls Tryd.prog 21 #[.int .i64 r] w fun e w' => e = .returned (.string ⟨(encodeRune r).toArray⟩) ∧ Below w.heap.size w w' := by
  have hz : Lib.encodeRuneZ r = [239, 191, 189] := Lib.encodeRuneZ_bad (.inl h1)
  have hc := conv_built w (encodeRune r) 3 #[.int .u8 (239), .int .u8 (191), .int .u8 (189)] (by rw [enc_len, hz]; rfl) (by omega) (by rw [cells_enc hz]; rfl)
  obtain ⟨q, hq⟩ : ∃ q, (⟨(encodeRune r).toArray⟩ : ByteArray) = q := ⟨_, rfl⟩
  rw [hq] at hc ⊢
  clear hz hq
  go_enter Tryd.func21, Tryd.ntmps21
  go_wp2
  go_ret
  exact ⟨rfl, (Below.refl _ _).alloc (Nat.le_refl _) _⟩

set_option maxHeartbeats 4000000 in
set_option maxRecDepth 100000 in
theorem rput_bad_sur (r : Int) (h0 : 55296 ≤ r) (h1 : r < 57344) (w : World) : Calls Tryd.prog 21 #[.int .i64 r] w fun e w' => e = .returned (.string ⟨(encodeRune r).toArray⟩) ∧ Below w.heap.size w w' := by
  have hz : Lib.encodeRuneZ r = [239, 191, 189] := Lib.encodeRuneZ_bad (.inr (.inl ⟨h0, by omega⟩))
  have hc := conv_built w (encodeRune r) 3 #[.int .u8 (239), .int .u8 (191), .int .u8 (189)] (by rw [enc_len, hz]; rfl) (by omega) (by rw [cells_enc hz]; rfl)
  obtain ⟨q, hq⟩ : ∃ q, (⟨(encodeRune r).toArray⟩ : ByteArray) = q := ⟨_, rfl⟩
  rw [hq] at hc ⊢
  clear hz hq
  go_enter Tryd.func21, Tryd.ntmps21
  go_wp2
  go_ret
  exact ⟨rfl, (Below.refl _ _).alloc (Nat.le_refl _) _⟩

set_option maxHeartbeats 4000000 in
set_option maxRecDepth 100000 in
theorem rput_bad_big (r : Int) (h0 : 1114111 < r) (h1 : r ≤ 2147483647) (w : World) : Calls Tryd.prog 21 #[.int .i64 r] w fun e w' => e = .returned (.string ⟨(encodeRune r).toArray⟩) ∧ Below w.heap.size w w' := by
  have hz : Lib.encodeRuneZ r = [239, 191, 189] := Lib.encodeRuneZ_bad (.inr (.inr h0))
  have hc := conv_built w (encodeRune r) 3 #[.int .u8 (239), .int .u8 (191), .int .u8 (189)] (by rw [enc_len, hz]; rfl) (by omega) (by rw [cells_enc hz]; rfl)
  obtain ⟨q, hq⟩ : ∃ q, (⟨(encodeRune r).toArray⟩ : ByteArray) = q := ⟨_, rfl⟩
  rw [hq] at hc ⊢
  clear hz hq
  go_enter Tryd.func21, Tryd.ntmps21
  go_wp2
  go_ret
  exact ⟨rfl, (Below.refl _ _).alloc (Nat.le_refl _) _⟩

theorem rput_any (r : Int) (h0 : -2147483648 ≤ r) (h1 : r ≤ 2147483647) (w : World) : Calls Tryd.prog 21 #[.int .i64 r] w fun e w' => e = .returned (.string ⟨(encodeRune r).toArray⟩) ∧ Below w.heap.size w w' := by
  by_cases c1 : r < 0
  · exact rput_bad_neg r h0 c1 w
  by_cases c2 : r ≤ 127
  · exact rput_one r (by omega) c2 w
  by_cases c3 : r ≤ 2047
  · exact rput_two r (by omega) c3 w
  by_cases c4 : r < 55296
  · exact rput_three_lo r (by omega) c4 w
  by_cases c5 : r < 57344
  · exact rput_bad_sur r (by omega) c5 w
  by_cases c6 : r ≤ 65535
  · exact rput_three_hi r (by omega) c6 w
  by_cases c7 : r ≤ 1114111
  · exact rput_four r (by omega) c7 w
  · exact rput_bad_big r (by omega) h1 w
end Go.Proofs.YtpbheelocigciaaDoor
