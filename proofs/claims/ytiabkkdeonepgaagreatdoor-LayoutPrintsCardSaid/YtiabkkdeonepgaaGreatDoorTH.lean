import Derived.Test.YtiabkkdeonepgaaGreatDoorXC
namespace Go.Proofs.YtiabkkdeonepgaaGreatDoor
open Go.RowKit
set_option maxHeartbeats 1000000 in
theorem rletter_any (n : Int) (w : World) : Calls Tryz.prog 33 #[.int .u8 n] w fun e w' => e = .returned (.bool (letN n)) ∧ w = w' := by
  go_enter Tryz.func33, Tryz.ntmps33
  go_wp2
  all_goals
    go_ret
    exact ⟨rb (by simp [letN] <;> omega), rfl⟩
set_option maxHeartbeats 1000000 in
theorem rdigit_any (n : Int) (w : World) : Calls Tryz.prog 34 #[.int .u8 n] w fun e w' => e = .returned (.bool (digN n)) ∧ w = w' := by
  go_enter Tryz.func34, Tryz.ntmps34
  go_wp2
  all_goals
    go_ret
    exact ⟨rb (by simp [digN] <;> omega), rfl⟩
def rkeys : List ByteArray := [⟨#[117, 115, 101]⟩, ⟨#[100, 101, 102]⟩, ⟨#[108, 101, 116]⟩, ⟨#[105, 102]⟩, ⟨#[101, 108, 115, 101]⟩, ⟨#[119, 104, 105, 108, 101]⟩, ⟨#[112, 114, 105, 110, 116]⟩, ⟨#[114, 101, 116, 117, 114, 110]⟩, ⟨#[102, 110]⟩, ⟨#[105, 110, 112, 117, 116]⟩, ⟨#[105, 110, 116]⟩, ⟨#[115, 116, 114]⟩, ⟨#[100, 121, 110]⟩]
def rk (k : Nat) : ByteArray := rkeys.getD k ⟨#[]⟩
theorem key_of (l : List UInt8) : keyL l = rkeys.any (fun x => x.data.toList == l) := by
  rw [Bool.eq_iff_iff]
  simp only [keyL, keys, rkeys, List.contains_cons, List.contains_nil, List.any_cons, List.any_nil, Bool.or_false, Bool.or_eq_true, beq_iff_eq]
  constructor
  · intro h
    rcases h with rfl | rfl | rfl | rfl | rfl | rfl | rfl | rfl | rfl | rfl | rfl | rfl | rfl <;> simp
  · intro h
    rcases h with h | h | h | h | h | h | h | h | h | h | h | h | h <;> (subst h; simp)
theorem key_hit {s : ByteArray} {k : Nat} (hk : k < 13) (h : (rk k).toList = s.toList) : keyL s.data.toList = true := by
  rw [key_of, List.any_eq_true]
  refine ⟨rkeys[k]'(by simp [rkeys]; omega), List.getElem_mem _, ?_⟩
  have e : rk k = rkeys[k]'(by simp [rkeys]; omega) := by unfold rk; rw [List.getD_eq_getElem?_getD, List.getElem?_eq_getElem]; rfl
  rw [beq_iff_eq, ← e, ← ByteArray.toList_eq, ← ByteArray.toList_eq, h]
theorem key_none {s : ByteArray} (h : ∀ k, k < 13 → (rk k).toList ≠ s.toList) : keyL s.data.toList = false := by
  rw [key_of, List.any_eq_false]
  intro x hx
  obtain ⟨k, hk, rfl⟩ := List.getElem_of_mem hx
  have hk' : k < 13 := by simpa [rkeys] using hk
  have e : rk k = rkeys[k] := by unfold rk; rw [List.getD_eq_getElem?_getD, List.getElem?_eq_getElem hk]; rfl
  have := h k hk'
  rw [ByteArray.toList_eq, ByteArray.toList_eq, e] at this
  intro h
  exact this (beq_iff_eq.1 h)
set_option maxHeartbeats 2000000 in
theorem rkey_any (s : ByteArray) (w : World) : Calls Tryz.prog 35 #[.string s] w fun e w' => e = .returned (.bool (keyL s.data.toList)) ∧ Below w.heap.size w w' := by
  have hc : ∀ k, k < 13 → (w.alloc (.cells #[.string ⟨#[117, 115, 101]⟩, .string ⟨#[100, 101, 102]⟩, .string ⟨#[108, 101, 116]⟩, .string ⟨#[105, 102]⟩, .string ⟨#[101, 108, 115, 101]⟩, .string ⟨#[119, 104, 105, 108, 101]⟩, .string ⟨#[112, 114, 105, 110, 116]⟩, .string ⟨#[114, 101, 116, 117, 114, 110]⟩, .string ⟨#[102, 110]⟩, .string ⟨#[105, 110, 112, 117, 116]⟩, .string ⟨#[105, 110, 116]⟩, .string ⟨#[115, 116, 114]⟩, .string ⟨#[100, 121, 110]⟩] 9)).cell? ⟨w.heap.size, k, none⟩ = some (.string (rk k)) := by
    intro k hk
    rw [(RowB.new w 9 #[.string ⟨#[117, 115, 101]⟩, .string ⟨#[100, 101, 102]⟩, .string ⟨#[108, 101, 116]⟩, .string ⟨#[105, 102]⟩, .string ⟨#[101, 108, 115, 101]⟩, .string ⟨#[119, 104, 105, 108, 101]⟩, .string ⟨#[112, 114, 105, 110, 116]⟩, .string ⟨#[114, 101, 116, 117, 114, 110]⟩, .string ⟨#[102, 110]⟩, .string ⟨#[105, 110, 112, 117, 116]⟩, .string ⟨#[105, 110, 116]⟩, .string ⟨#[115, 116, 114]⟩, .string ⟨#[100, 121, 110]⟩]).cell k]
    rcases (by omega : k = 0 ∨ k = 1 ∨ k = 2 ∨ k = 3 ∨ k = 4 ∨ k = 5 ∨ k = 6 ∨ k = 7 ∨ k = 8 ∨ k = 9 ∨ k = 10 ∨ k = 11 ∨ k = 12) with rfl | rfl | rfl | rfl | rfl | rfl | rfl | rfl | rfl | rfl | rfl | rfl | rfl <;> rfl
  have HB : Hid (Below w.heap.size w (w.alloc (.cells #[.string ⟨#[117, 115, 101]⟩, .string ⟨#[100, 101, 102]⟩, .string ⟨#[108, 101, 116]⟩, .string ⟨#[105, 102]⟩, .string ⟨#[101, 108, 115, 101]⟩, .string ⟨#[119, 104, 105, 108, 101]⟩, .string ⟨#[112, 114, 105, 110, 116]⟩, .string ⟨#[114, 101, 116, 117, 114, 110]⟩, .string ⟨#[102, 110]⟩, .string ⟨#[105, 110, 112, 117, 116]⟩, .string ⟨#[105, 110, 116]⟩, .string ⟨#[115, 116, 114]⟩, .string ⟨#[100, 121, 110]⟩] 9))) := (Below.refl _ w).alloc (Nat.le_refl _) _
  have HC := Lib.hid hc
  clear hc
  go_enter Tryz.func35, Tryz.ntmps35
  go_wp2_with fail
  obtain ⟨W, hW⟩ : ∃ W, w.alloc (.cells #[.string ⟨#[117, 115, 101]⟩, .string ⟨#[100, 101, 102]⟩, .string ⟨#[108, 101, 116]⟩, .string ⟨#[105, 102]⟩, .string ⟨#[101, 108, 115, 101]⟩, .string ⟨#[119, 104, 105, 108, 101]⟩, .string ⟨#[112, 114, 105, 110, 116]⟩, .string ⟨#[114, 101, 116, 117, 114, 110]⟩, .string ⟨#[102, 110]⟩, .string ⟨#[105, 110, 112, 117, 116]⟩, .string ⟨#[105, 110, 116]⟩, .string ⟨#[115, 116, 114]⟩, .string ⟨#[100, 121, 110]⟩] 9) = W := ⟨_, rfl⟩
  rw [hW] at HC HB
  rw [hW]
  clear hW
  go_loopg [4] 13 (fun kx a wr => ∃ k : Nat, a = .int .i64 k ∧ k ≤ 13 ∧ 13 - k ≤ kx ∧ Hid (∀ j, j < k → (rk j).toList ≠ s.toList) ∧ Hid (W = wr))
  case atStart => exact ⟨0, rfl, by omega, by omega, fun j hj => by omega, rfl⟩
  case round =>
    obtain ⟨k, rfl, hk, hkx, HN, HW⟩ := hrel
    obtain rfl := HW.out
    by_cases hlt : k < 13
    · have hlz : (k : Int) < 13 := by omega
      have hcell := HC.out k hlt
      obtain ⟨r, hr⟩ : ∃ r, r = rk k := ⟨_, rfl⟩
      rw [← hr] at hcell
      by_cases he : r.toList = s.toList
      · have HT : Hid (true = keyL s.data.toList) := by show _ = _; exact (key_hit hlt (by rw [← hr]; exact he)).symm
        have q : (r.toList == s.toList) = true := by simpa using he
        clear hr he
        go_wp2_with fail
        go_ret
        exact ⟨rb (by rw [← HT.out]), HB.out⟩
      · have HN2 : Hid (∀ j, j < k + 1 → (rk j).toList ≠ s.toList) := by
          intro j hj
          by_cases e : j = k
          · subst e; rw [← hr]; exact he
          · exact HN.out j (by omega)
        have q : (r.toList == s.toList) = false := by simpa using he
        clear hr he
        go_wp2_with fail
        go_roundg (13 - (k + 1))
        case measure => omega
        case rel => exact ⟨k + 1, by go_num, by omega, by omega, HN2, rfl⟩
    · obtain rfl : k = 13 := by omega
      have HT : Hid (false = keyL s.data.toList) := by show _ = _; exact (key_none HN.out).symm
      clear hlt
      go_wp2_with fail
      go_ret
      exact ⟨rb (by rw [← HT.out]), HB.out⟩
end Go.Proofs.YtiabkkdeonepgaaGreatDoor
