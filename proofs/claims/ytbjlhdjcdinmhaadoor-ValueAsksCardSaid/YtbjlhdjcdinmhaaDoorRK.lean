/- Contract: is a text a name (f34)? -/
import Derived.Test.YtbjlhdjcdinmhaaDoorRJ
namespace Go.Proofs.YtbjlhdjcdinmhaaDoor
open Go.RowKit Go.Op
namespace Vm
def letN (n : Int) : Bool := decide ((97 ≤ n ∧ n ≤ 122) ∨ (65 ≤ n ∧ n ≤ 90) ∨ n = 95)
def digN (n : Int) : Bool := decide (48 ≤ n ∧ n ≤ 57)
def wdN (n : Int) : Bool := letN n || digN n
def keys : List (List UInt8) := [[100, 101, 102], [100, 121, 110], [101, 108, 115, 101], [102, 110], [105, 102], [105, 110, 112, 117, 116], [105, 110, 116], [108, 101, 116], [112, 114, 105, 110, 116], [114, 101, 116, 117, 114, 110], [115, 116, 114], [117, 115, 101], [119, 104, 105, 108, 101]]
def keyL (l : List UInt8) : Bool := keys.contains l
theorem len_list (s : ByteArray) : s.data.toList.length = s.size := Array.length_toList
theorem head_of (s : ByteArray) (h0 : 0 < s.size) : (s.data.toList.getD 0 0).toNat = (s[0]'h0).toNat := by
  rw [List.getD_eq_getElem?_getD, List.getElem?_eq_getElem (by simpa using h0)]
  rfl

set_option maxHeartbeats 1000000 in
theorem rletter_any (n : Int) (w : World) : Calls Tryd.prog 52 #[.int .u8 n] w fun e w' => e = .returned (.bool (letN n)) ∧ w = w' := by
  go_enter Tryd.func52, Tryd.ntmps52
  go_wp2
  all_goals
    go_ret
    exact ⟨rb (by simp [letN] <;> omega), rfl⟩
set_option maxHeartbeats 1000000 in
theorem rdigit_any (n : Int) (w : World) : Calls Tryd.prog 51 #[.int .u8 n] w fun e w' => e = .returned (.bool (digN n)) ∧ w = w' := by
  go_enter Tryd.func51, Tryd.ntmps51
  go_wp2
  all_goals
    go_ret
    exact ⟨rb (by simp [digN] <;> omega), rfl⟩

def rkeys : List ByteArray := [⟨#[117, 115, 101]⟩, ⟨#[100, 101, 102]⟩, ⟨#[108, 101, 116]⟩, ⟨#[105, 102]⟩, ⟨#[101, 108, 115, 101]⟩, ⟨#[119, 104, 105, 108, 101]⟩, ⟨#[112, 114, 105, 110, 116]⟩, ⟨#[114, 101, 116, 117, 114, 110]⟩, ⟨#[102, 110]⟩, ⟨#[105, 110, 112, 117, 116]⟩, ⟨#[105, 110, 116]⟩, ⟨#[115, 116, 114]⟩, ⟨#[100, 121, 110]⟩]
def rk (k : Nat) : ByteArray := rkeys.getD k ⟨#[]⟩
theorem key_of (l : List UInt8) : keyL l = rkeys.any (fun x => x.data.toList == l) := by
  rw [Bool.eq_iff_iff]
  simp only [keyL, keys, rkeys, List.contains_cons, List.contains_nil, List.any_cons, List.any_nil, Bool.or_false, Bool.or_eq_true, beq_iff_eq]
  constructor
  · intro h
    rcases h with rfl | rfl | rfl | rfl | rfl | rfl | rfl | rfl | rfl | rfl | rfl | rfl | rfl <;> simp
  · intro h
    rcases h with h | h | h | h | h | h | h | h | h | h | h | h | h <;> (subst h; simp)
theorem key_hit {s : ByteArray} {k : Nat} (hk : k < 13) (h : (rk k).toList = s.toList) : keyL s.data.toList = true := by
  rw [key_of, List.any_eq_true]
  refine ⟨rkeys[k]'(by simp [rkeys]; omega), List.getElem_mem _, ?_⟩
  have e : rk k = rkeys[k]'(by simp [rkeys]; omega) := by unfold rk; rw [List.getD_eq_getElem?_getD, List.getElem?_eq_getElem]; rfl
  rw [beq_iff_eq, ← e, ← ByteArray.toList_eq, ← ByteArray.toList_eq, h]
theorem key_none {s : ByteArray} (h : ∀ k, k < 13 → (rk k).toList ≠ s.toList) : keyL s.data.toList = false := by
  rw [key_of, List.any_eq_false]
  intro x hx
  obtain ⟨k, hk, rfl⟩ := List.getElem_of_mem hx
  have hk' : k < 13 := by simpa [rkeys] using hk
  have e : rk k = rkeys[k] := by unfold rk; rw [List.getD_eq_getElem?_getD, List.getElem?_eq_getElem hk]; rfl
  have := h k hk'
  rw [ByteArray.toList_eq, ByteArray.toList_eq, e] at this
  intro h
  exact this (beq_iff_eq.1 h)

set_option maxHeartbeats 2000000 in
theorem rkey_any (s : ByteArray) (w : World) : Calls Tryd.prog 50 #[.string s] w fun e w' => e = .returned (.bool (keyL s.data.toList)) ∧ Below w.heap.size w w' := by
  have hc : ∀ k, k < 13 → (w.alloc (.cells #[.string ⟨#[117, 115, 101]⟩, .string ⟨#[100, 101, 102]⟩, .string ⟨#[108, 101, 116]⟩, .string ⟨#[105, 102]⟩, .string ⟨#[101, 108, 115, 101]⟩, .string ⟨#[119, 104, 105, 108, 101]⟩, .string ⟨#[112, 114, 105, 110, 116]⟩, .string ⟨#[114, 101, 116, 117, 114, 110]⟩, .string ⟨#[102, 110]⟩, .string ⟨#[105, 110, 112, 117, 116]⟩, .string ⟨#[105, 110, 116]⟩, .string ⟨#[115, 116, 114]⟩, .string ⟨#[100, 121, 110]⟩] 9)).cell? ⟨w.heap.size, k, none⟩ = some (.string (rk k)) := by
    intro k hk
    rw [(RowB.new w 9 #[.string ⟨#[117, 115, 101]⟩, .string ⟨#[100, 101, 102]⟩, .string ⟨#[108, 101, 116]⟩, .string ⟨#[105, 102]⟩, .string ⟨#[101, 108, 115, 101]⟩, .string ⟨#[119, 104, 105, 108, 101]⟩, .string ⟨#[112, 114, 105, 110, 116]⟩, .string ⟨#[114, 101, 116, 117, 114, 110]⟩, .string ⟨#[102, 110]⟩, .string ⟨#[105, 110, 112, 117, 116]⟩, .string ⟨#[105, 110, 116]⟩, .string ⟨#[115, 116, 114]⟩, .string ⟨#[100, 121, 110]⟩]).cell k]
    rcases (by omega : k = 0 ∨ k = 1 ∨ k = 2 ∨ k = 3 ∨ k = 4 ∨ k = 5 ∨ k = 6 ∨ k = 7 ∨ k = 8 ∨ k = 9 ∨ k = 10 ∨ k = 11 ∨ k = 12) with rfl | rfl | rfl | rfl | rfl | rfl | rfl | rfl | rfl | rfl | rfl | rfl | rfl <;> rfl
  have HB : Hid (Below w.heap.size w (w.alloc (.cells #[.string ⟨#[117, 115, 101]⟩, .string ⟨#[100, 101, 102]⟩, .string ⟨#[108, 101, 116]⟩, .string ⟨#[105, 102]⟩, .string ⟨#[101, 108, 115, 101]⟩, .string ⟨#[119, 104, 105, 108, 101]⟩, .string ⟨#[112, 114, 105, 110, 116]⟩, .string ⟨#[114, 101, 116, 117, 114, 110]⟩, .string ⟨#[102, 110]⟩, .string ⟨#[105, 110, 112, 117, 116]⟩, .string ⟨#[105, 110, 116]⟩, .string ⟨#[115, 116, 114]⟩, .string ⟨#[100, 121, 110]⟩] 9))) := (Below.refl _ w).alloc (Nat.le_refl _) _
  have HC := Lib.hid hc
  clear hc
  go_enter Tryd.func50, Tryd.ntmps50
  go_wp2_with fail
  obtain ⟨W, hW⟩ : ∃ W, w.alloc (.cells #[.string ⟨#[117, 115, 101]⟩, .string ⟨#[100, 101, 102]⟩, .string ⟨#[108, 101, 116]⟩, .string ⟨#[105, 102]⟩, .string ⟨#[101, 108, 115, 101]⟩, .string ⟨#[119, 104, 105, 108, 101]⟩, .string ⟨#[112, 114, 105, 110, 116]⟩, .string ⟨#[114, 101, 116, 117, 114, 110]⟩, .string ⟨#[102, 110]⟩, .string ⟨#[105, 110, 112, 117, 116]⟩, .string ⟨#[105, 110, 116]⟩, .string ⟨#[115, 116, 114]⟩, .string ⟨#[100, 121, 110]⟩] 9) = W := ⟨_, rfl⟩
  rw [hW] at HC HB
  rw [hW]
  clear hW
  go_loopg [4] 13 (fun kx a wr => ∃ k : Nat, a = .int .i64 k ∧ k ≤ 13 ∧ 13 - k ≤ kx ∧ Hid (∀ j, j < k → (rk j).toList ≠ s.toList) ∧ Hid (W = wr))
  case atStart => exact ⟨0, rfl, by omega, by omega, fun j hj => by omega, rfl⟩
  case round =>
    obtain ⟨k, rfl, hk, hkx, HN, HW⟩ := hrel
    obtain rfl := HW.out
    by_cases hlt : k < 13
    · have hlz : (k : Int) < 13 := by omega
      have hcell := HC.out k hlt
      obtain ⟨r, hr⟩ : ∃ r, r = rk k := ⟨_, rfl⟩
      rw [← hr] at hcell
      by_cases he : r.toList = s.toList
      · have HT : Hid (true = keyL s.data.toList) := by show _ = _; exact (key_hit hlt (by rw [← hr]; exact he)).symm
        have q : (r.toList == s.toList) = true := by simpa using he
        clear hr he
        go_wp2_with fail
        go_ret
        exact ⟨rb (by rw [← HT.out]), HB.out⟩
      · have HN2 : Hid (∀ j, j < k + 1 → (rk j).toList ≠ s.toList) := by
          intro j hj
          by_cases e : j = k
          · subst e; rw [← hr]; exact he
          · exact HN.out j (by omega)
        have q : (r.toList == s.toList) = false := by simpa using he
        clear hr he
        go_wp2_with fail
        go_roundg (13 - (k + 1))
        case measure => omega
        case rel => exact ⟨k + 1, by go_num, by omega, by omega, HN2, rfl⟩
    · obtain rfl : k = 13 := by omega
      have HT : Hid (false = keyL s.data.toList) := by show _ = _; exact (key_none HN.out).symm
      clear hlt
      go_wp2_with fail
      go_ret
      exact ⟨rb (by rw [← HT.out]), HB.out⟩

def allW (l : List UInt8) : Bool := l.all fun b => wdN b.toNat

def rnameL (l : List UInt8) : Bool := !(decide (l.length = 0) || decide (l.length > 40) || keyL l || digN (l.getD 0 0).toNat) && allW l
theorem allW_take {s : ByteArray} {k : Nat} (h : k < s.size) (ha : allW s.data.toList = true) : wdN (s[k]'h).toNat = true := by
  unfold allW at ha
  rw [List.all_eq_true] at ha
  exact ha _ (by simp [ByteArray.getElem_eq_getElem_data])
theorem allW_not {s : ByteArray} {k : Nat} (h : k < s.size) (hw : wdN (s[k]'h).toNat = false) : allW s.data.toList = false := by
  cases ha : allW s.data.toList
  · rfl
  · rw [allW_take h ha] at hw; cases hw
theorem allW_yes {s : ByteArray} (h : ∀ k (hk : k < s.size), wdN (s[k]'hk).toNat = true) : allW s.data.toList = true := by
  unfold allW
  rw [List.all_eq_true]
  intro x hx
  obtain ⟨k, hk, rfl⟩ := List.getElem_of_mem hx
  exact h k (by simpa using hk)

set_option maxHeartbeats 4000000 in
theorem rname_any (s : ByteArray) (hs : s.size ≤ 9223372036854775807) (w : World) : Calls Tryd.prog 34 #[.string s] w fun e w' => e = .returned (.bool (rnameL s.data.toList)) ∧ Below w.heap.size w w' := by
  obtain ⟨N, hN⟩ : ∃ N, N = rnameL s.data.toList := ⟨_, rfl⟩
  rw [← hN]
  unfold rnameL at hN
  rw [len_list] at hN
  by_cases h0 : s.size = 0
  · have q : ((s.size : Int) == 0) = true := by rw [beq_iff_eq]; omega
    rw [decide_eq_true h0] at hN
    have HN := Lib.hid hN
    clear hN h0
    go_enter Tryd.func34, Tryd.ntmps34
    go_wp2_with fail
    go_ret
    exact ⟨rb (by rw [HN.out]; simp), Below.refl _ _⟩
  have q0 : ((s.size : Int) == 0) = false := by rw [beq_eq_false_iff_ne]; omega
  rw [decide_eq_false h0, Bool.false_or] at hN
  by_cases h40 : s.size > 40
  · have q : (s.size : Int) > 40 := by omega
    rw [decide_eq_true h40] at hN
    have HN := Lib.hid hN
    clear hN h0 h40
    go_enter Tryd.func34, Tryd.ntmps34
    go_wp2_with fail
    go_ret
    exact ⟨rb (by rw [HN.out]; simp), Below.refl _ _⟩
  have q1 : ¬ (s.size : Int) > 40 := by omega
  rw [decide_eq_false h40, Bool.false_or] at hN
  have c1 := rkey_any s w
  cases hk : keyL s.data.toList
  · rw [hk] at c1 hN
    rw [Bool.false_or] at hN
    have h00 : 0 < s.size := by omega
    rw [head_of s h00] at hN
    have c2 := fun w => rdigit_any (s[0]'h00).toNat w
    cases hd : digN (s[0]'h00).toNat
    · rw [hd] at c2 hN
      rw [Bool.not_false, Bool.true_and] at hN
      have HN := Lib.hid hN
      have C1 := Lib.hid c1
      have C2 := Lib.hid c2
      clear c1 c2 hN h0 h40 hk hd
      go_enter Tryd.func34, Tryd.ntmps34
      go_wp2_with fail
      refine C1.out.mono ?_
      rintro e w1 ⟨rfl, hb⟩
      have HB := Lib.hid hb
      clear hb
      go_wp2_with fail
      refine (C2.out _).mono ?_
      rintro e w2 ⟨rfl, rfl⟩
      go_wp2_with fail
      go_loopg [3] s.size (fun kx a wr => ∃ k : Nat, a = .int .i64 k ∧ k ≤ s.size ∧ s.size - k ≤ kx ∧ Hid (∀ j (hj : j < s.size), j < k → wdN (s[j]'hj).toNat = true) ∧ Hid (w1 = wr))
      case atStart => exact ⟨0, rfl, by omega, by omega, fun j hj h => by omega, rfl⟩
      case round =>
        obtain ⟨k, rfl, hk, hkx, HA, HW⟩ := hrel
        obtain rfl := HW.out
        by_cases hlt : k < s.size
        · have hlz : (k : Int) < (s.size : Int) := by omega
          have c3 := fun w => rletter_any (s[k]'hlt).toNat w
          have c4 := fun w => rdigit_any (s[k]'hlt).toNat w
          cases hl : letN (s[k]'hlt).toNat
          · rw [hl] at c3
            cases hg : digN (s[k]'hlt).toNat
            · rw [hg] at c4
              have HF : Hid (N = false) := by
                show _ = _
                rw [HN.out]
                exact allW_not hlt (by unfold wdN; rw [hl, hg]; rfl)
              have C3 := Lib.hid c3
              have C4 := Lib.hid c4
              clear c3 c4 hl hg
              go_wp2_with fail
              refine (C3.out _).mono ?_
              rintro e w2 ⟨rfl, rfl⟩
              go_wp2_with fail
              refine (C4.out _).mono ?_
              rintro e w2 ⟨rfl, rfl⟩
              go_wp2_with fail
              go_ret
              exact ⟨rb (by rw [HF.out]), HB.out⟩
            · rw [hg] at c4
              have HA2 : Hid (∀ j (hj : j < s.size), j < k + 1 → wdN (s[j]'hj).toNat = true) := by
                intro j hj h
                by_cases e : j = k
                · subst e; unfold wdN; rw [hg]; simp
                · exact HA.out j hj (by omega)
              have C3 := Lib.hid c3
              have C4 := Lib.hid c4
              clear c3 c4 hl hg
              go_wp2_with fail
              refine (C3.out _).mono ?_
              rintro e w2 ⟨rfl, rfl⟩
              go_wp2_with fail
              refine (C4.out _).mono ?_
              rintro e w2 ⟨rfl, rfl⟩
              go_wp2_with fail
              go_roundg (s.size - (k + 1))
              case measure => omega
              case rel => exact ⟨k + 1, by go_num, by omega, by omega, HA2, rfl⟩
          · rw [hl] at c3
            have HA2 : Hid (∀ j (hj : j < s.size), j < k + 1 → wdN (s[j]'hj).toNat = true) := by
              intro j hj h
              by_cases e : j = k
              · subst e; unfold wdN; rw [hl]; rfl
              · exact HA.out j hj (by omega)
            have C3 := Lib.hid c3
            clear c3 c4 hl
            go_wp2_with fail
            refine (C3.out _).mono ?_
            rintro e w2 ⟨rfl, rfl⟩
            go_wp2_with fail
            go_roundg (s.size - (k + 1))
            case measure => omega
            case rel => exact ⟨k + 1, by go_num, by omega, by omega, HA2, rfl⟩
        · obtain rfl : k = s.size := by omega
          have HF : Hid (N = true) := by
            show _ = _
            rw [HN.out]
            exact allW_yes fun j hj => HA.out j hj hj
          have hlz : ¬ (s.size : Int) < (s.size : Int) := by omega
          clear hlt
          go_wp2_with fail
          go_ret
          exact ⟨rb (by rw [HF.out]), HB.out⟩
    · rw [hd] at c2 hN
      have HN := Lib.hid hN
      have C1 := Lib.hid c1
      have C2 := Lib.hid c2
      clear c1 c2 hN h0 h40 hk hd
      go_enter Tryd.func34, Tryd.ntmps34
      go_wp2_with fail
      refine C1.out.mono ?_
      rintro e w1 ⟨rfl, hb⟩
      have HB := Lib.hid hb
      clear hb
      go_wp2_with fail
      refine (C2.out _).mono ?_
      rintro e w2 ⟨rfl, rfl⟩
      go_wp2_with fail
      go_ret
      exact ⟨rb (by rw [HN.out]; simp), HB.out⟩
  · rw [hk] at c1 hN
    have HN := Lib.hid hN
    have C1 := Lib.hid c1
    clear c1 hN h0 h40 hk
    go_enter Tryd.func34, Tryd.ntmps34
    go_wp2_with fail
    refine C1.out.mono ?_
    rintro e w1 ⟨rfl, hb⟩
    have HB := Lib.hid hb
    clear hb
    go_wp2_with fail
    go_ret
    exact ⟨rb (by rw [HN.out]; simp), HB.out⟩

end Vm
end Go.Proofs.YtbjlhdjcdinmhaaDoor
