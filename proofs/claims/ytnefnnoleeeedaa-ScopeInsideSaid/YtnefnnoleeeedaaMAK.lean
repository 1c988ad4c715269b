/- Contracts: names and keys, by package token and by the document's answer. -/
import Derived.Test.YtnefnnoleeeedaaMAJ
import Derived.Test.YtnefnnoleeeedaaMAB
import Derived.Deep.LoopGhost
import Derived.BigQuiet
import Derived.Test.YtnefnnoleeeedaaMAA
import Derived.IntWalk
namespace Go.Proofs.Ytnefnnoleeeedaa
open Go.RowKit

set_option maxHeartbeats 1000000 in
theorem rletter_any (n : Int) (w : World) : Calls Try.prog 30 #[.int .u8 n] w fun e w' => e = .returned (.bool (letN n)) ∧ w = w' := by
  go_enter Try.func30, Try.ntmps30
  go_wp2
  all_goals
    go_ret
    exact ⟨rb (by simp [letN] <;> omega), rfl⟩
set_option maxHeartbeats 1000000 in
theorem rdigit_any (n : Int) (w : World) : Calls Try.prog 29 #[.int .u8 n] w fun e w' => e = .returned (.bool (digN n)) ∧ w = w' := by
  go_enter Try.func29, Try.ntmps29
  go_wp2
  all_goals
    go_ret
    exact ⟨rb (by simp [digN] <;> omega), rfl⟩

def rkeys : List ByteArray := [⟨#[117, 115, 101]⟩, ⟨#[100, 101, 102]⟩, ⟨#[108, 101, 116]⟩, ⟨#[105, 102]⟩, ⟨#[101, 108, 115, 101]⟩, ⟨#[119, 104, 105, 108, 101]⟩, ⟨#[112, 114, 105, 110, 116]⟩, ⟨#[114, 101, 116, 117, 114, 110]⟩, ⟨#[102, 110]⟩, ⟨#[105, 110, 112, 117, 116]⟩, ⟨#[105, 110, 116]⟩, ⟨#[115, 116, 114]⟩, ⟨#[100, 121, 110]⟩]
def rk (k : Nat) : ByteArray := rkeys.getD k ⟨#[]⟩
theorem key_of (l : List UInt8) : keyL l = rkeys.any (fun x => x.data.toList == l) := by
  rw [Bool.eq_iff_iff]
  simp only [keyL, keys, rkeys, List.contains_cons, List.contains_nil, List.any_cons, List.any_nil, Bool.or_false, Bool.or_eq_true, beq_iff_eq]
  constructor
  · intro h
    rcases h with rfl | rfl | rfl | rfl | rfl | rfl | rfl | rfl | rfl | rfl | rfl | rfl | rfl <;> simp
  · intro h
    rcases h with h | h | h | h | h | h | h | h | h | h | h | h | h <;> (subst h; simp)
theorem key_hit {s : ByteArray} {k : Nat} (hk : k < 13) (h : (rk k).toList = s.toList) : keyL s.data.toList = true := by
  rw [key_of, List.any_eq_true]
  refine ⟨rkeys[k]'(by simp [rkeys]; omega), List.getElem_mem _, ?_⟩
  have e : rk k = rkeys[k]'(by simp [rkeys]; omega) := by unfold rk; rw [List.getD_eq_getElem?_getD, List.getElem?_eq_getElem]; rfl
  rw [beq_iff_eq, ← e, ← ByteArray.toList_eq, ← ByteArray.toList_eq, h]
theorem key_none {s : ByteArray} (h : ∀ k, k < 13 → (rk k).toList ≠ s.toList) : keyL s.data.toList = false := by
  rw [key_of, List.any_eq_false]
  intro x hx
  obtain ⟨k, hk, rfl⟩ := List.getElem_of_mem hx
  have hk' : k < 13 := by simpa [rkeys] using hk
  have e : rk k = rkeys[k] := by unfold rk; rw [List.getD_eq_getElem?_getD, List.getElem?_eq_getElem hk]; rfl
  have := h k hk'
  rw [ByteArray.toList_eq, ByteArray.toList_eq, e] at this
  intro h
  exact this (beq_iff_eq.1 h)

set_option maxHeartbeats 2000000 in
theorem rkey_any (s : ByteArray) (w : World) : Calls Try.prog 28 #[.string s] w fun e w' => e = .returned (.bool (keyL s.data.toList)) ∧ Below w.heap.size w w' := by
  have hc : ∀ k, k < 13 → (w.alloc (.cells #[.string ⟨#[117, 115, 101]⟩, .string ⟨#[100, 101, 102]⟩, .string ⟨#[108, 101, 116]⟩, .string ⟨#[105, 102]⟩, .string ⟨#[101, 108, 115, 101]⟩, .string ⟨#[119, 104, 105, 108, 101]⟩, .string ⟨#[112, 114, 105, 110, 116]⟩, .string ⟨#[114, 101, 116, 117, 114, 110]⟩, .string ⟨#[102, 110]⟩, .string ⟨#[105, 110, 112, 117, 116]⟩, .string ⟨#[105, 110, 116]⟩, .string ⟨#[115, 116, 114]⟩, .string ⟨#[100, 121, 110]⟩] 9)).cell? ⟨w.heap.size, k, none⟩ = some (.string (rk k)) := by
    intro k hk
    rw [(RowB.new w 9 #[.string ⟨#[117, 115, 101]⟩, .string ⟨#[100, 101, 102]⟩, .string ⟨#[108, 101, 116]⟩, .string ⟨#[105, 102]⟩, .string ⟨#[101, 108, 115, 101]⟩, .string ⟨#[119, 104, 105, 108, 101]⟩, .string ⟨#[112, 114, 105, 110, 116]⟩, .string ⟨#[114, 101, 116, 117, 114, 110]⟩, .string ⟨#[102, 110]⟩, .string ⟨#[105, 110, 112, 117, 116]⟩, .string ⟨#[105, 110, 116]⟩, .string ⟨#[115, 116, 114]⟩, .string ⟨#[100, 121, 110]⟩]).cell k]
    rcases (by omega : k = 0 ∨ k = 1 ∨ k = 2 ∨ k = 3 ∨ k = 4 ∨ k = 5 ∨ k = 6 ∨ k = 7 ∨ k = 8 ∨ k = 9 ∨ k = 10 ∨ k = 11 ∨ k = 12) with rfl | rfl | rfl | rfl | rfl | rfl | rfl | rfl | rfl | rfl | rfl | rfl | rfl <;> rfl
  have HB : Hid (Below w.heap.size w (w.alloc (.cells #[.string ⟨#[117, 115, 101]⟩, .string ⟨#[100, 101, 102]⟩, .string ⟨#[108, 101, 116]⟩, .string ⟨#[105, 102]⟩, .string ⟨#[101, 108, 115, 101]⟩, .string ⟨#[119, 104, 105, 108, 101]⟩, .string ⟨#[112, 114, 105, 110, 116]⟩, .string ⟨#[114, 101, 116, 117, 114, 110]⟩, .string ⟨#[102, 110]⟩, .string ⟨#[105, 110, 112, 117, 116]⟩, .string ⟨#[105, 110, 116]⟩, .string ⟨#[115, 116, 114]⟩, .string ⟨#[100, 121, 110]⟩] 9))) := (Below.refl _ w).alloc (Nat.le_refl _) _
  have HC := Lib.hid hc
  clear hc
  go_enter Try.func28, Try.ntmps28
  go_wp2_with fail
  obtain ⟨W, hW⟩ : ∃ W, w.alloc (.cells #[.string ⟨#[117, 115, 101]⟩, .string ⟨#[100, 101, 102]⟩, .string ⟨#[108, 101, 116]⟩, .string ⟨#[105, 102]⟩, .string ⟨#[101, 108, 115, 101]⟩, .string ⟨#[119, 104, 105, 108, 101]⟩, .string ⟨#[112, 114, 105, 110, 116]⟩, .string ⟨#[114, 101, 116, 117, 114, 110]⟩, .string ⟨#[102, 110]⟩, .string ⟨#[105, 110, 112, 117, 116]⟩, .string ⟨#[105, 110, 116]⟩, .string ⟨#[115, 116, 114]⟩, .string ⟨#[100, 121, 110]⟩] 9) = W := ⟨_, rfl⟩
  rw [hW] at HC HB
  rw [hW]
  clear hW
  go_loopg [4] 13 (fun kx a wr => ∃ k : Nat, a = .int .i64 k ∧ k ≤ 13 ∧ 13 - k ≤ kx ∧ Hid (∀ j, j < k → (rk j).toList ≠ s.toList) ∧ Hid (W = wr))
  case atStart => exact ⟨0, rfl, by omega, by omega, fun j hj => by omega, rfl⟩
  case round =>
    obtain ⟨k, rfl, hk, hkx, HN, HW⟩ := hrel
    obtain rfl := HW.out
    by_cases hlt : k < 13
    · have hlz : (k : Int) < 13 := by omega
      have hcell := HC.out k hlt
      obtain ⟨r, hr⟩ : ∃ r, r = rk k := ⟨_, rfl⟩
      rw [← hr] at hcell
      by_cases he : r.toList = s.toList
      · have HT : Hid (true = keyL s.data.toList) := by show _ = _; exact (key_hit hlt (by rw [← hr]; exact he)).symm
        have q : (r.toList == s.toList) = true := by simpa using he
        clear hr he
        go_wp2_with fail
        go_ret
        exact ⟨rb (by rw [← HT.out]), HB.out⟩
      · have HN2 : Hid (∀ j, j < k + 1 → (rk j).toList ≠ s.toList) := by
          intro j hj
          by_cases e : j = k
          · subst e; rw [← hr]; exact he
          · exact HN.out j (by omega)
        have q : (r.toList == s.toList) = false := by simpa using he
        clear hr he
        go_wp2_with fail
        go_roundg (13 - (k + 1))
        case measure => omega
        case rel => exact ⟨k + 1, by go_num, by omega, by omega, HN2, rfl⟩
    · obtain rfl : k = 13 := by omega
      have HT : Hid (false = keyL s.data.toList) := by show _ = _; exact (key_none HN.out).symm
      clear hlt
      go_wp2_with fail
      go_ret
      exact ⟨rb (by rw [← HT.out]), HB.out⟩

end Go.Proofs.Ytnefnnoleeeedaa

/- Mathematics: numbers and quoted strings, as the document's Lex goes through them. -/
namespace Go.Proofs.Ytnefnnoleeeedaa
open Go.RowKit
/-- The document's way with a number's digits. -/
def refN : Nat → List UInt8 → Bool
  | _, [] => true
  | acc, c :: r => if 48 ≤ c.toNat ∧ c.toNat ≤ 57 then (if 9223372036854775807 < acc * 10 + (c.toNat - 48) then false else refN (acc * 10 + (c.toNat - 48)) r) else false
def finN : Lib.NumEnd Nat → Bool
  | .ok u => decide (u < 9223372036854775808)
  | _ => false
theorem uintM_big : ∀ (l : List UInt8) (acc : Nat), 9223372036854775808 ≤ acc → finN (Lib.parseUintM 18446744073709551615 acc l) = false
  | [], acc, h => by
    unfold Lib.parseUintM finN
    exact decide_eq_false (by omega)
  | c :: r, acc, h => by
    unfold Lib.parseUintM
    split
    · rw [if_pos (by omega)]; rfl
    · rfl
theorem uintM_ref : ∀ (l : List UInt8) (acc : Nat), acc < 9223372036854775808 → finN (Lib.parseUintM 18446744073709551615 acc l) = refN acc l
  | [], acc, h => by
    unfold Lib.parseUintM finN refN
    exact decide_eq_true h
  | c :: r, acc, h => by
    unfold Lib.parseUintM refN
    by_cases hd : 48 ≤ c.toNat ∧ c.toNat ≤ 57
    · rw [if_pos hd, if_pos hd]
      by_cases hb : 9223372036854775807 < acc * 10 + (c.toNat - 48)
      · rw [if_pos hb]
        split
        · rfl
        · split
          · rfl
          · exact uintM_big r _ (by omega)
      · rw [if_neg hb, if_neg (by omega), if_neg (by omega)]
        exact uintM_ref r _ (by omega)
    · rw [if_neg hd, if_neg hd]
      rfl
theorem numOk_ref {c : UInt8} {r : List UInt8} (hd : 48 ≤ c.toNat ∧ c.toNat ≤ 57) : numOk (c :: r) = refN 0 (c :: r) := by
  have h := uintM_ref (c :: r) 0 (by omega)
  rw [← h]
  unfold numOk Lib.parseIntB Lib.parseUintB
  have e1 : (if c.toNat = 43 ∨ c.toNat = 45 then r else c :: r) = c :: r := if_neg (by omega)
  dsimp only
  rw [e1, if_neg (by simp), show (2 : Nat) ^ 64 - 1 = 18446744073709551615 by decide]
  rcases Lib.parseUintM 18446744073709551615 0 (c :: r) with u | _ | _
  · dsimp only [finN]
    by_cases hu : u < 9223372036854775808
    · rw [decide_eq_true hu, if_neg (by omega), if_neg (by omega)]
    · rw [decide_eq_false hu, if_pos (by omega)]
  · rfl
  · rfl
theorem um_mem : ∀ (c : List UInt8) (sl : Bool) (o : List UInt8), um c sl = some o → ∀ x ∈ c, x ≠ 10
  | [], sl, o, h => by simp
  | b :: t, true, o, h => by
    rw [um] at h
    split at h
    · rename_i hm
      obtain ⟨o', h1, _⟩ := Option.map_eq_some_iff.1 h
      intro x hx
      rcases List.mem_cons.1 hx with rfl | hx
      · intro e; subst e; revert hm; decide
      · exact um_mem t false o' h1 x hx
    · cases h
  | b :: t, false, o, h => by
    rw [um] at h
    split at h
    · rename_i hb
      intro x hx
      rcases List.mem_cons.1 hx with rfl | hx
      · rw [hb]; decide
      · exact um_mem t true o h x hx
    · split at h
      · cases h
      · rename_i hb
        obtain ⟨o', h1, _⟩ := Option.map_eq_some_iff.1 h
        intro x hx
        rcases List.mem_cons.1 hx with rfl | hx
        · intro e; subst e; exact hb (.inl (by decide))
        · exact um_mem t false o' h1 x hx
/-- A line feed between quotes is none. -/
theorem unq_lf {L : List UInt8} {i : Nat} (h : L[i]? = some 10) : unq L = none := by
  unfold unq
  by_cases hc : L.length < 2 ∨ L.getD 0 0 ≠ 34 ∨ L.getD (L.length - 1) 0 ≠ 34
  · rw [if_pos hc]
  · rw [if_neg hc]
    have h1 : ¬ L.length < 2 := fun h => hc (.inl h)
    have h2 : L.getD 0 0 = 34 := Classical.byContradiction fun h => hc (.inr (.inl h))
    have h3 : L.getD (L.length - 1) 0 = 34 := Classical.byContradiction fun h => hc (.inr (.inr h))
    have hi : i < L.length := (List.getElem?_eq_some_iff.1 h).1
    have n0 : i ≠ 0 := by
      intro e; subst e
      rw [List.getD_eq_getElem?_getD, h] at h2
      exact absurd h2 (by decide)
    have n1 : i ≠ L.length - 1 := by
      intro e; subst e
      rw [List.getD_eq_getElem?_getD, h] at h3
      exact absurd h3 (by decide)
    cases hu : um ((L.drop 1).take (L.length - 2)) false with
    | none => rfl
    | some o =>
      refine absurd rfl (um_mem _ _ _ hu 10 (List.mem_of_getElem? (i := i - 1) ?_))
      rw [List.getElem?_take, if_pos (by omega), List.getElem?_drop, show 1 + (i - 1) = i by omega, h]
theorem um_open : ∀ (c : List UInt8) (st : Bool), runM sls qGo st (c ++ [34]) = c.length + 1 → um c st = none
  | [], st, h => by
    cases st with
    | true => rfl
    | false => revert h; decide
  | b :: t, st, h => by
    rw [List.cons_append, runM] at h
    split at h
    · simp only [List.length_cons] at h
      have h1 : runM sls qGo (sls st b.toNat) (t ++ [34]) = t.length + 1 := by omega
      have h2 := um_open t _ h1
      cases st with
      | true =>
        have e : sls true (b.toNat : Int) = false := by unfold sls; simp
        rw [e] at h2
        rw [um, h2]
        split <;> rfl
      | false =>
        rw [um]
        by_cases hb : b = 92
        · have e : sls false (b.toNat : Int) = true := by subst hb; decide
          rw [e] at h2
          rw [if_pos hb, h2]
        · have e : sls false (b.toNat : Int) = false := by
            unfold sls
            have : ¬ ((b.toNat : Int) = 92) := fun h => hb (UInt8.toNat_inj.1 (by
              have : b.toNat = 92 := by omega
              rw [this]; rfl))
            simp [this]
          rw [e] at h2
          rw [if_neg hb, h2]
          split <;> rfl
    · omega
/-- A quote that is never shut is none. -/
theorem unq_open {m : List UInt8} (h : runM sls qGo false m = m.length) : unq (34 :: m) = none := by
  unfold unq
  by_cases hc : (34 :: m).length < 2 ∨ (34 :: m).getD 0 0 ≠ 34 ∨ (34 :: m).getD ((34 :: m).length - 1) 0 ≠ 34
  · rw [if_pos hc]
  · rw [if_neg hc]
    have h1 : ¬ (34 :: m).length < 2 := fun h => hc (.inl h)
    have h3 : (34 :: m).getD ((34 :: m).length - 1) 0 = 34 := Classical.byContradiction fun h => hc (.inr (.inr h))
    have hne : m ≠ [] := fun e => by subst e; simp at h1
    simp only [List.length_cons] at h1 h3 ⊢
    have hl : m.getLast hne = 34 := by
      rw [List.getLast_eq_getElem]
      have hp : 0 < m.length := List.length_pos_iff.2 hne
      rw [show m.length + 1 - 1 = (m.length - 1) + 1 by omega, List.getD_cons_succ, List.getD_eq_getElem?_getD, List.getElem?_eq_getElem (by omega)] at h3
      exact h3
    have hm : m = m.dropLast ++ [34] := by rw [← hl]; exact (List.dropLast_concat_getLast hne).symm
    have e : ((34 :: m).drop 1).take (m.length + 1 - 2) = m.dropLast := by
      rw [List.drop_one, List.tail_cons, List.dropLast_eq_take]
      congr 1
    rw [e]
    refine um_open _ _ ?_
    rw [← hm, h]
    have hp : 0 < m.length := List.length_pos_iff.2 hne
    rw [List.length_dropLast]
    omega
end Go.Proofs.Ytnefnnoleeeedaa

/- Contracts: the document's Lex: what means nothing, words. -/
/- Contracts: the document's answer for package token: where what means nothing ends. -/
namespace Go.Proofs.Ytnefnnoleeeedaa
open Go.RowKit

theorem lead_cons (c : Bool) (b : UInt8) (t : List UInt8) : runM cmt lGo c (b :: t) = if lGo c b.toNat then 1 + runM cmt lGo (cmt c b.toNat) t else 0 := by
  rw [runM]
theorem lead_blank {b : UInt8} {t : List UInt8} (h : blkN b.toNat = true) (h2 : (b.toNat : Int) ≠ 35) : runM cmt lGo false (b :: t) = 1 + runM cmt lGo false t := by
  have hc : cmt false b.toNat = false := by unfold cmt; split <;> simp_all
  rw [lead_cons, hc]
  unfold lGo
  rw [hc, h]
  rfl
theorem lead_stop {b : UInt8} {t : List UInt8} (h : blkN b.toNat = false) (h2 : (b.toNat : Int) ≠ 35) : runM cmt lGo false (b :: t) = 0 := by
  have hc : cmt false b.toNat = false := by unfold cmt; split <;> simp_all
  rw [lead_cons]
  unfold lGo
  rw [hc, h]
  rfl
theorem lead_hash {b : UInt8} {t : List UInt8} (h : (b.toNat : Int) = 35) : runM cmt lGo false (b :: t) = runM cmt lGo true (b :: t) := by
  have h1 : cmt false b.toNat = true := by unfold cmt; rw [if_neg (by omega), if_pos h]
  have h2 : cmt true b.toNat = true := by unfold cmt; rw [if_neg (by omega), if_pos h]
  rw [lead_cons, lead_cons]
  unfold lGo
  rw [h1, h2]
theorem lead_in {b : UInt8} {t : List UInt8} (h : (b.toNat : Int) ≠ 10) : runM cmt lGo true (b :: t) = 1 + runM cmt lGo true t := by
  have h2 : cmt true b.toNat = true := by unfold cmt; rw [if_neg h]; split <;> rfl
  rw [lead_cons]
  unfold lGo
  rw [h2]
  rfl
theorem lead_lf {b : UInt8} {t : List UInt8} (h : (b.toNat : Int) = 10) : runM cmt lGo true (b :: t) = runM cmt lGo false (b :: t) := by
  have h1 : cmt false b.toNat = false := by unfold cmt; rw [if_pos h]
  have h2 : cmt true b.toNat = false := by unfold cmt; rw [if_pos h]
  rw [lead_cons, lead_cons]
  unfold lGo
  rw [h1, h2]
theorem lead_nil (c : Bool) : runM cmt lGo c [] = 0 := by rw [runM]

theorem tl_cons (s : ByteArray) (k : Nat) (h : k < s.size) : tl s k = s[k] :: tl s (k + 1) := by
  unfold tl
  rw [List.drop_eq_getElem_cons (by simpa using h)]
  rfl

set_option maxHeartbeats 4000000 in
set_option maxRecDepth 100000 in
theorem lead_any (s : ByteArray) (k : Nat) (w : World) (hs : s.size ≤ 100000) (hk : k ≤ s.size) : Calls Try.prog 39 #[.string s, .int .i64 k] w fun e w' => e = .returned (.int .i64 (atK s k)) ∧ Below w.heap.size w w' := by
  go_enter Try.func39, Try.ntmps39
  go_wp2_with fail
  go_loopg [1] (s.size + 1) (fun kx v wr => ∃ j : Nat, v = .int .i64 j ∧ j ≤ s.size ∧ s.size - j ≤ kx ∧ Hid (j + runM cmt lGo false (tl s j) = atK s k) ∧ Hid (Below w.heap.size w wr))
  case atStart => exact ⟨k, rfl, hk, by omega, rfl, Below.refl _ _⟩
  case round =>
    obtain ⟨j, rfl, hj, hkx, HA, HB⟩ := hrel
    by_cases hlt : j < s.size
    · have hc := tl_cons s j hlt
      by_cases hbl : blkN (s[j]'hlt).toNat = true
      · have h35 : ((s[j]'hlt).toNat : Int) ≠ 35 := by unfold blkN at hbl; simp only [decide_eq_true_eq] at hbl; omega
        have HN : Hid ((j + 1) + runM cmt lGo false (tl s (j + 1)) = atK s k) := by
          unfold Hid; rw [← HA.out, hc, lead_blank hbl h35]; omega
        have hb4 : ((s[j]'hlt).toNat : Int) = 32 ∨ ((s[j]'hlt).toNat : Int) = 9 ∨ ((s[j]'hlt).toNat : Int) = 10 ∨ ((s[j]'hlt).toNat : Int) = 13 := by
          unfold blkN at hbl; simpa using hbl
        clear hbl h35 hc
        rcases hb4 with hb | hb | hb | hb
        all_goals
          go_wp2_with fail
          go_roundg (s.size - (j + 1))
          case measure => omega
          case rel => exact ⟨j + 1, by go_num, by omega, by omega, HN.out, HB.out⟩
      · have hbl' : blkN (s[j]'hlt).toNat = false := by simpa using hbl
        have hnb : ¬ (((s[j]'hlt).toNat : Int) = 32) ∧ ¬ (((s[j]'hlt).toNat : Int) = 9) ∧ ¬ (((s[j]'hlt).toNat : Int) = 10) ∧ ¬ (((s[j]'hlt).toNat : Int) = 13) := by
          unfold blkN at hbl'; simp only [decide_eq_false_iff_not] at hbl'; omega
        obtain ⟨n1, n2, n3, n4⟩ := hnb
        have m1 : (((s[j]'hlt).toNat : Int) == 32) = false := by rw [beq_eq_false_iff_ne]; exact n1
        have m2 : (((s[j]'hlt).toNat : Int) == 9) = false := by rw [beq_eq_false_iff_ne]; exact n2
        have m3 : (((s[j]'hlt).toNat : Int) == 10) = false := by rw [beq_eq_false_iff_ne]; exact n3
        have m4 : (((s[j]'hlt).toNat : Int) == 13) = false := by rw [beq_eq_false_iff_ne]; exact n4
        by_cases h35 : ((s[j]'hlt).toNat : Int) = 35
        · have HI : Hid (j + runM cmt lGo true (tl s j) = atK s k) := by
            unfold Hid; rw [← HA.out, hc, lead_hash h35]
          clear hbl hbl' hc HA n1 n2 n3 n4
          go_wp2_with fail
          go_loopg [1] (s.size + 1) (fun kx2 v wr => ∃ i : Nat, v = .int .i64 i ∧ j ≤ i ∧ i ≤ s.size ∧ s.size - i ≤ kx2 ∧ (i = j ∨ j < i) ∧ Hid (i + runM cmt lGo true (tl s i) = atK s k) ∧ Hid (Below w.heap.size w wr))
          case atStart => exact ⟨j, rfl, Nat.le_refl _, by omega, by omega, .inl rfl, HI.out, HB.out⟩
          case round =>
            obtain ⟨i, rfl, hji, hi, hkx2, hor, HI2, HB2⟩ := hrel
            by_cases hlt2 : i < s.size
            · have hc2 := tl_cons s i hlt2
              by_cases h10 : ((s[i]'hlt2).toNat : Int) = 10
              · have hlti : j < i := by
                  rcases hor with h | h
                  · subst h; omega
                  · exact h
                have HN : Hid (i + runM cmt lGo false (tl s i) = atK s k) := by
                  unfold Hid; rw [← HI2.out, hc2, lead_lf h10]
                clear hc2 HI2 m1 m2 m3 m4 h35
                go_wp2_with fail
                go_roundg (s.size - i)
                case measure => omega
                case rel => exact ⟨i, rfl, by omega, by omega, HN.out, HB2.out⟩
              · have HN : Hid ((i + 1) + runM cmt lGo true (tl s (i + 1)) = atK s k) := by
                  unfold Hid; rw [← HI2.out, hc2, lead_in h10]; omega
                have m5 : (((s[i]'hlt2).toNat : Int) == 10) = false := by rw [beq_eq_false_iff_ne]; exact h10
                clear hc2 HI2 m1 m2 m3 m4 h35 h10
                go_wp2_with fail
                go_roundg (s.size - (i + 1))
                case measure => omega
                case rel => exact ⟨i + 1, by go_num, by omega, by omega, by omega, .inr (by omega), HN.out, HB2.out⟩
            · obtain rfl : i = s.size := by omega
              have HN : Hid (s.size + runM cmt lGo false (tl s s.size) = atK s k) := by
                unfold Hid; rw [← HI2.out, tl_end s _ (Nat.le_refl _), lead_nil, lead_nil]
              have hnl : ¬ (s.size : Int) < (s.size : Int) := by omega
              clear HI2 m1 m2 m3 m4 h35
              go_wp2_with fail
              go_roundg 0
              case measure => omega
              case rel => exact ⟨s.size, rfl, Nat.le_refl _, by omega, HN.out, HB2.out⟩
        · have HE : Hid (j = atK s k) := by unfold Hid; rw [← HA.out, hc, lead_stop hbl' h35]; rfl
          have m6 : (((s[j]'hlt).toNat : Int) == 35) = false := by rw [beq_eq_false_iff_ne]; exact h35
          clear hbl hbl' hc HA n1 n2 n3 n4 h35
          go_wp2
          go_ret
          exact ⟨by rw [← HE.out]; rfl, HB.out⟩
    · obtain rfl : j = s.size := by omega
      have HE : Hid (s.size = atK s k) := by unfold Hid; rw [← HA.out, tl_end s _ (Nat.le_refl _), lead_nil]; rfl
      have hnl : ¬ (s.size : Int) < (s.size : Int) := by omega
      clear HA
      go_wp2
      go_ret
      exact ⟨by rw [← HE.out]; rfl, HB.out⟩
end Go.Proofs.Ytnefnnoleeeedaa
/- Contracts: the document's answer for package token: one token, a word. -/
namespace Go.Proofs.Ytnefnnoleeeedaa
open Go.RowKit

def wordAt (s : ByteArray) (k : Nat) : Nat × Nat × Nat := if keyL ((tl s k).take (wLen (tl s k))) = true then (2, k + wLen (tl s k), 0) else if wLen (tl s k) > 40 then (0, 0, 26) else (1, k + wLen (tl s k), 0)
theorem w_go (s : ByteArray) (j : Nat) (h : j < s.size) (hb : wdN ((s[j]'h).toNat : Int) = true) : wLen (tl s j) = 1 + wLen (tl s (j + 1)) := by
  rw [tl_cons s j h]
  unfold wLen
  rw [runM_go (go := wGo) (by exact hb)]
  rfl
theorem w_stop (s : ByteArray) (j : Nat) (h : j < s.size) (hb : wdN ((s[j]'h).toNat : Int) = false) : wLen (tl s j) = 0 := by
  rw [tl_cons s j h]
  unfold wLen
  rw [runM_stop (go := wGo) (by exact hb)]
theorem w_end (s : ByteArray) : wLen (tl s s.size) = 0 := by
  rw [tl_end s _ (Nat.le_refl _)]; unfold wLen; rw [runM]
theorem ext_tl (s : ByteArray) (k n : Nat) : (s.extract k (k + n)).data.toList = (tl s k).take n := by
  unfold tl
  rw [ByteArray.data_extract, Array.toList_extract, List.extract_eq_take_drop, Nat.add_sub_cancel_left]

set_option maxHeartbeats 4000000 in
set_option maxRecDepth 100000 in
theorem one_word (s : ByteArray) (k : Nat) (w : World) (hs : s.size ≤ 100000) (hk : k < s.size) (hl : letN ((s[k]'hk).toNat : Int) = true) : Calls Try.prog 40 #[.string s, .int .i64 k] w fun e w' => e = tri (wordAt s k) ∧ Below w.heap.size w w' := by
  have H0 : Hid ((k + 1) + wLen (tl s (k + 1)) = k + wLen (tl s k)) := by
    unfold Hid; rw [w_go s k hk (by unfold wdN; rw [hl]; rfl)]; omega
  obtain ⟨m, hm⟩ : ∃ m, m = wLen (tl s k) := ⟨_, rfl⟩
  obtain ⟨x, hx⟩ : ∃ x, x = wordAt s k := ⟨_, rfl⟩
  rw [← hx]
  unfold wordAt at hx
  rw [← hm] at H0 hx
  rw [← ext_tl] at hx
  have HX := Lib.hid hx
  clear hx hm
  go_enter Try.func40, Try.ntmps40
  go_wp2_with fail
  refine (rletter_any _ _).mono ?_
  rintro e w1 ⟨rfl, rfl⟩
  go_wp2_with fail
  go_loopg [7] (s.size + 1) (fun kx v wr => ∃ j : Nat, v = .int .i64 j ∧ k < j ∧ j ≤ s.size ∧ s.size - j ≤ kx ∧ Hid (j + wLen (tl s j) = k + m) ∧ Hid (w = wr))
  case atStart => exact ⟨k + 1, by go_num, by omega, by omega, by omega, H0.out, rfl⟩
  case round =>
    obtain ⟨j, rfl, hkj, hj, hkx, HA, HB⟩ := hrel
    obtain rfl := HB.out
    by_cases hlt : j < s.size
    · cases h1 : letN ((s[j]'hlt).toNat : Int)
      · cases h2 : digN ((s[j]'hlt).toNat : Int)
        · have HE : Hid (j = k + m) := by
            unfold Hid; rw [← HA.out, w_stop s j hlt (by unfold wdN; rw [h1, h2]; rfl)]; rfl
          go_wp2_with fail
          refine (rletter_any _ _).mono ?_
          rintro e w1 ⟨rfl, rfl⟩
          go_wp2_with fail
          refine (rdigit_any _ _).mono ?_
          rintro e w1 ⟨rfl, rfl⟩
          go_wp2_with fail
          refine (rkey_any _ _).mono ?_
          rintro e w2 ⟨rfl, HB2⟩
          have HB3 := Lib.hid HB2
          clear HB2
          cases hkey : keyL (s.extract k j).data.toList
          · by_cases h40 : m > 40
            · have hz : ((j - k : Nat) : Int) > 40 := by have := HE.out; omega
              have HR : Hid (x = (0, 0, 26)) := by
                unfold Hid; rw [HX.out, ← HE.out, hkey, if_neg (by decide), if_pos h40]
              go_wp2_with fail
              refine (rletter_any _ _).mono ?_
              rintro e w3 ⟨rfl, rfl⟩
              go_wp2_with fail
              go_ret3
              exact ⟨tri_eq (a := 0) (b := 0) (c := 26) HR.out, HB3.out⟩
            · have hz : ¬ ((j - k : Nat) : Int) > 40 := by have := HE.out; omega
              have HR : Hid (x = (1, j, 0)) := by
                unfold Hid; rw [HX.out, ← HE.out, hkey, if_neg (by decide), if_neg h40]
              go_wp2_with fail
              refine (rletter_any _ _).mono ?_
              rintro e w3 ⟨rfl, rfl⟩
              go_wp2_with fail
              go_ret3
              exact ⟨tri_eq (a := 1) (b := j) (c := 0) HR.out, HB3.out⟩
          · have HR : Hid (x = (2, j, 0)) := by
              unfold Hid; rw [HX.out, ← HE.out, hkey, if_pos rfl]
            go_wp2_with fail
            go_ret3
            exact ⟨tri_eq (a := 2) (b := j) (c := 0) HR.out, HB3.out⟩
        · have HN : Hid ((j + 1) + wLen (tl s (j + 1)) = k + m) := by
            unfold Hid; rw [← HA.out, w_go s j hlt (by unfold wdN; rw [h1, h2]; rfl)]; omega
          go_wp2_with fail
          refine (rletter_any _ _).mono ?_
          rintro e w1 ⟨rfl, rfl⟩
          go_wp2_with fail
          refine (rdigit_any _ _).mono ?_
          rintro e w1 ⟨rfl, rfl⟩
          go_wp2_with fail
          go_roundg (s.size - (j + 1))
          case measure => omega
          case rel => exact ⟨j + 1, by go_num, by omega, by omega, by omega, HN.out, rfl⟩
      · have HN : Hid ((j + 1) + wLen (tl s (j + 1)) = k + m) := by
          unfold Hid; rw [← HA.out, w_go s j hlt (by unfold wdN; rw [h1]; rfl)]; omega
        go_wp2_with fail
        refine (rletter_any _ _).mono ?_
        rintro e w1 ⟨rfl, rfl⟩
        go_wp2_with fail
        go_roundg (s.size - (j + 1))
        case measure => omega
        case rel => exact ⟨j + 1, by go_num, by omega, by omega, by omega, HN.out, rfl⟩
    · obtain rfl : j = s.size := by omega
      have HE : Hid (s.size = k + m) := by unfold Hid; rw [← HA.out, w_end]; rfl
      have hnl : ¬ (s.size : Int) < (s.size : Int) := by omega
      go_wp2_with fail
      refine (rkey_any _ _).mono ?_
      rintro e w2 ⟨rfl, HB2⟩
      have HB3 := Lib.hid HB2
      clear HB2
      cases hkey : keyL (s.extract k s.size).data.toList
      · by_cases h40 : m > 40
        · have hz : ((s.size - k : Nat) : Int) > 40 := by have := HE.out; omega
          have HR : Hid (x = (0, 0, 26)) := by
            unfold Hid; rw [HX.out, ← HE.out, hkey, if_neg (by decide), if_pos h40]
          go_wp2_with fail
          refine (rletter_any _ _).mono ?_
          rintro e w3 ⟨rfl, rfl⟩
          go_wp2_with fail
          go_ret3
          exact ⟨tri_eq (a := 0) (b := 0) (c := 26) HR.out, HB3.out⟩
        · have hz : ¬ ((s.size - k : Nat) : Int) > 40 := by have := HE.out; omega
          have HR : Hid (x = (1, s.size, 0)) := by
            unfold Hid; rw [HX.out, ← HE.out, hkey, if_neg (by decide), if_neg h40]
          go_wp2_with fail
          refine (rletter_any _ _).mono ?_
          rintro e w3 ⟨rfl, rfl⟩
          go_wp2_with fail
          go_ret3
          exact ⟨tri_eq (a := 1) (b := s.size) (c := 0) HR.out, HB3.out⟩
      · have HR : Hid (x = (2, s.size, 0)) := by
          unfold Hid; rw [HX.out, ← HE.out, hkey, if_pos rfl]
        go_wp2_with fail
        go_ret3
        exact ⟨tri_eq (a := 2) (b := s.size) (c := 0) HR.out, HB3.out⟩
end Go.Proofs.Ytnefnnoleeeedaa

/- Contracts: the document's Lex: numbers. -/
namespace Go.Proofs.Ytnefnnoleeeedaa
open Go.RowKit
def numAt (s : ByteArray) (k : Nat) : Nat × Nat × Nat := if numOk ((tl s k).take (wLen (tl s k))) = true then (3, k + wLen (tl s k), 0) else (0, 0, 23)
theorem key_dig {c : UInt8} (hd : digN (c.toNat : Int) = true) (r : List UInt8) : keyL (c :: r) = false := by
  have key : ∀ x ∈ keys, ∀ b ∈ x.head?, digN (b.toNat : Int) = false := by decide
  unfold keyL
  cases h : keys.contains (c :: r) with
  | false => rfl
  | true =>
    have hm : (c :: r) ∈ keys := by simpa using h
    have := key _ hm c (by simp)
    rw [hd] at this; cases this

set_option maxHeartbeats 4000000 in
set_option maxRecDepth 100000 in
theorem one_num (s : ByteArray) (k : Nat) (w : World) (hs : s.size ≤ 100000) (hk : k < s.size) (hl : letN ((s[k]'hk).toNat : Int) = false) (hd : digN ((s[k]'hk).toNat : Int) = true) : Calls Try.prog 40 #[.string s, .int .i64 k] w fun e w' => e = tri (numAt s k) ∧ Below w.heap.size w w' := by
  have H0 : Hid ((k + 1) + wLen (tl s (k + 1)) = k + wLen (tl s k)) := by
    unfold Hid; rw [w_go s k hk (by unfold wdN; rw [hd, Bool.or_true])]; omega
  obtain ⟨m, hm⟩ : ∃ m, m = wLen (tl s k) := ⟨_, rfl⟩
  obtain ⟨x, hx⟩ : ∃ x, x = numAt s k := ⟨_, rfl⟩
  rw [← hx]
  unfold numAt at hx
  rw [← hm] at H0 hx
  have HX := Lib.hid hx
  have hm0 : 0 < m := by have := H0.out; omega
  clear hx hm
  go_enter Try.func40, Try.ntmps40
  go_wp2_with fail
  refine (rletter_any _ _).mono ?_
  rintro e w1 ⟨rfl, rfl⟩
  go_wp2_with fail
  refine (rdigit_any _ _).mono ?_
  rintro e w1 ⟨rfl, rfl⟩
  go_wp2_with fail
  go_loopg [7] (s.size + 1) (fun kx v wr => ∃ j : Nat, v = .int .i64 j ∧ k < j ∧ j ≤ s.size ∧ s.size - j ≤ kx ∧ Hid (j + wLen (tl s j) = k + m) ∧ Hid (w = wr))
  case atStart => exact ⟨k + 1, by go_num, by omega, by omega, by omega, H0.out, rfl⟩
  case round =>
    obtain ⟨j, rfl, hkj, hj, hkx, HA, HB⟩ := hrel
    obtain rfl := HB.out
    by_cases hlt : j < s.size
    · cases h1 : letN ((s[j]'hlt).toNat : Int)
      · cases h2 : digN ((s[j]'hlt).toNat : Int)
        · have HE : Hid (j = k + m) := by
            unfold Hid; rw [← HA.out, w_stop s j hlt (by unfold wdN; rw [h1, h2]; rfl)]; rfl
          go_wp2_with fail
          refine (rletter_any _ _).mono ?_
          rintro e w1 ⟨rfl, rfl⟩
          go_wp2_with fail
          refine (rdigit_any _ _).mono ?_
          rintro e w1 ⟨rfl, rfl⟩
          go_wp2_with fail
          obtain ⟨T, hT⟩ : ∃ T, T = s.extract k j := ⟨_, rfl⟩
          rw [← hT]
          have hTs : T.size ≤ 100000 := by rw [hT, ByteArray.size_extract]; omega
          have hTl : T.data.toList = (tl s k).take m := by rw [hT, show j = k + m from HE.out, ext_tl]
          have hcons : T.data.toList = s[k]'hk :: (T.data.toList).drop 1 := by
            rw [hTl, tl_cons s k hk]
            cases m with
            | zero => exact absurd HE.out (by unfold Hid at HE; omega)
            | succ m => rw [List.take_succ_cons, List.drop_one, List.tail_cons]
          have hkey : keyL T.data.toList = false := by
            rw [hcons]; exact key_dig hd _
          have hnum : numOk T.data.toList = refN 0 T.data.toList := by
            rw [hcons]; exact numOk_ref (by unfold digN at hd; have := of_decide_eq_true hd; omega)
          have HR : Hid (x = if refN 0 T.data.toList = true then (3, j, 0) else (0, 0, 23)) := by
            unfold Hid
            rw [HX.out, ← hnum, hTl, show j = k + m from HE.out]
          obtain ⟨B, hB⟩ : ∃ B, B = refN 0 T.data.toList := ⟨_, rfl⟩
          rw [← hB] at HR
          have HBB := Lib.hid hB
          clear hT hTl hcons hnum hB HX
          refine (rkey_any _ _).mono ?_
          rw [hkey]
          rintro e w2 ⟨rfl, HB2⟩
          have HB3 := Lib.hid HB2
          clear HB2
          go_wp2_with fail
          refine (rletter_any _ _).mono ?_
          rintro e w3 ⟨rfl, rfl⟩
          go_wp2_with fail
          go_loopg [9, 10] (T.size + 1) (fun kx v u wr => ∃ (n : Nat) (i : Nat), v = .int .u64 ((n : Nat) : Int) ∧ u = .int .i64 i ∧ i ≤ T.size ∧ T.size - i ≤ kx ∧ n ≤ 9223372036854775807 ∧ Hid (refN n (T.data.toList.drop i) = B) ∧ Hid (w2 = wr))
          case atStart => exact ⟨0, 0, rfl, rfl, by omega, by omega, by omega, by unfold Hid; rw [List.drop_zero]; exact HBB.out.symm, rfl⟩
          case round =>
            obtain ⟨n, i, rfl, rfl, hi, hkx2, hn, HF, HW⟩ := hrel
            obtain rfl := HW.out
            by_cases hlt2 : i < T.size
            · have hdr : T.data.toList.drop i = T[i]'hlt2 :: T.data.toList.drop (i + 1) := tl_cons T i hlt2
              cases h3 : digN ((T[i]'hlt2).toNat : Int)
              · have HB0 : Hid (B = false) := by
                  have := HF.out
                  rw [hdr, refN, if_neg (by unfold digN at h3; have := of_decide_eq_false h3; omega)] at this
                  exact this.symm
                have HXX : Hid (x = (0, 0, 23)) := by
                  unfold Hid; rw [HR.out, HB0.out]; rfl
                clear hdr
                go_wp2_with fail
                refine (rdigit_any _ _).mono ?_
                rintro e w1 ⟨rfl, rfl⟩
                go_wp2_with fail
                go_ret3
                exact ⟨tri_eq (a := 0) (b := 0) (c := 23) HXX.out, HB3.out⟩
              · obtain ⟨c, hc⟩ : ∃ c, c = (T[i]'hlt2).toNat := ⟨_, rfl⟩
                have hc1 : 48 ≤ c ∧ c ≤ 57 := by rw [hc]; unfold digN at h3; have := of_decide_eq_true h3; omega
                obtain ⟨d, hdd⟩ : ∃ d, d = c - 48 := ⟨_, rfl⟩
                have hF2 := HF.out
                rw [hdr, refN, ← hc, if_pos hc1, ← hdd] at hF2
                obtain ⟨q, hq⟩ : ∃ q, q = (9223372036854775807 - d) / 10 := ⟨_, rfl⟩
                have hd9 : d ≤ 9 := by omega
                have f1 : IntKind.u8.wrap ((c : Int) - 48) = (d : Int) := by rw [IntKind.wrap_u8]; omega
                have f2 : IntKind.u64.wrap (d : Int) = (d : Int) := by rw [IntKind.wrap_u64]; omega
                have f3 : IntKind.u64.wrap (9223372036854775807 - (d : Int)) = 9223372036854775807 - (d : Int) := by rw [IntKind.wrap_u64]; omega
                have f4 : (9223372036854775807 - (d : Int)) / 10 = (q : Int) := by omega
                have f5 : (9223372036854775807 - (d : Int)).tdiv 10 = (q : Int) := by rw [Int.tdiv_eq_ediv_of_nonneg (by omega)]; exact f4
                have f6 : IntKind.u64.wrap (q : Int) = (q : Int) := by rw [IntKind.wrap_u64]; omega
                have HQ := Lib.hid hq
                have HD9 := Lib.hid hdd
                have HF2 := Lib.hid hF2
                have HHC := Lib.hid hc
                clear hdr hF2 hq hdd HF
                go_wp2_with fail
                refine (rdigit_any _ _).mono ?_
                rintro e w1 ⟨rfl, rfl⟩
                rw [← hc]
                go_wp2_with fail
                · rename_i hg
                  have hc := HHC.out
                  have hd' := HD9.out
                  have HXX : Hid (x = (0, 0, 23)) := by
                    have h := HF2.out
                    rw [if_pos (by omega)] at h
                    unfold Hid; rw [HR.out, ← h]; rfl
                  go_ret3
                  exact ⟨tri_eq (a := 0) (b := 0) (c := 23) HXX.out, HB3.out⟩
                · rename_i hg
                  have hc := HHC.out
                  have hd' := HD9.out
                  have hle : n * 10 + d ≤ 9223372036854775807 := by omega
                  have HF3 : Hid (refN (n * 10 + d) (T.data.toList.drop (i + 1)) = B) := by
                    have h := HF2.out
                    rw [if_neg (by omega)] at h
                    exact h
                  go_roundg (T.size - (i + 1))
                  case measure => omega
                  case rel => exact ⟨n * 10 + d, i + 1, by rw [show ((n * 10 + d : Nat) : Int) = (n : Int) * 10 + (((T[i]'hlt2).toNat : Int) - 48) by omega], by go_num, by omega, by omega, hle, HF3.out, rfl⟩
            · obtain rfl : i = T.size := by omega
              have HB0 : Hid (B = true) := by
                have := HF.out
                rw [List.drop_of_length_le (by simp), refN] at this
                exact this.symm
              have HXX : Hid (x = (3, j, 0)) := by
                unfold Hid; rw [HR.out, HB0.out]; rfl
              have hnl2 : ¬ (T.size : Int) < (T.size : Int) := by omega
              go_wp2_with fail
              go_ret3
              exact ⟨tri_eq (a := 3) (b := j) (c := 0) HXX.out, HB3.out⟩
        · have HA2 : Hid ((j + 1) + wLen (tl s (j + 1)) = k + m) := by
            have := HA.out; rw [w_go s j hlt (by unfold wdN; rw [h2, Bool.or_true])] at this; unfold Hid; omega
          go_wp2_with fail
          refine (rletter_any _ _).mono ?_
          rintro e w1 ⟨rfl, rfl⟩
          go_wp2_with fail
          refine (rdigit_any _ _).mono ?_
          rintro e w1 ⟨rfl, rfl⟩
          go_wp2_with fail
          go_roundg (s.size - (j + 1))
          case measure => omega
          case rel => exact ⟨j + 1, by go_num, by omega, by omega, by omega, HA2.out, rfl⟩
      · have HA2 : Hid ((j + 1) + wLen (tl s (j + 1)) = k + m) := by
          have := HA.out; rw [w_go s j hlt (by unfold wdN; rw [h1]; rfl)] at this; unfold Hid; omega
        go_wp2_with fail
        refine (rletter_any _ _).mono ?_
        rintro e w1 ⟨rfl, rfl⟩
        go_wp2_with fail
        go_roundg (s.size - (j + 1))
        case measure => omega
        case rel => exact ⟨j + 1, by go_num, by omega, by omega, by omega, HA2.out, rfl⟩
    · obtain rfl : j = s.size := by omega
      have hnl : ¬ (s.size : Int) < (s.size : Int) := by omega
      have HE : Hid (s.size = k + m) := by
        unfold Hid; rw [← HA.out, w_end]; rfl
      go_wp2_with fail
      obtain ⟨T, hT⟩ : ∃ T, T = s.extract k s.size := ⟨_, rfl⟩
      rw [← hT]
      have hTs : T.size ≤ 100000 := by rw [hT, ByteArray.size_extract]; omega
      have hTl : T.data.toList = (tl s k).take m := by rw [hT, show s.size = k + m from HE.out, ext_tl]
      have hcons : T.data.toList = s[k]'hk :: (T.data.toList).drop 1 := by
        rw [hTl, tl_cons s k hk]
        cases m with
        | zero => exact absurd HE.out (by unfold Hid at HE; omega)
        | succ m => rw [List.take_succ_cons, List.drop_one, List.tail_cons]
      have hkey : keyL T.data.toList = false := by
        rw [hcons]; exact key_dig hd _
      have hnum : numOk T.data.toList = refN 0 T.data.toList := by
        rw [hcons]; exact numOk_ref (by unfold digN at hd; have := of_decide_eq_true hd; omega)
      have HR : Hid (x = if refN 0 T.data.toList = true then (3, s.size, 0) else (0, 0, 23)) := by
        unfold Hid
        rw [HX.out, ← hnum, hTl, show s.size = k + m from HE.out]
      obtain ⟨B, hB⟩ : ∃ B, B = refN 0 T.data.toList := ⟨_, rfl⟩
      rw [← hB] at HR
      have HBB := Lib.hid hB
      clear hT hTl hcons hnum hB HX
      refine (rkey_any _ _).mono ?_
      rw [hkey]
      rintro e w2 ⟨rfl, HB2⟩
      have HB3 := Lib.hid HB2
      clear HB2
      go_wp2_with fail
      refine (rletter_any _ _).mono ?_
      rintro e w3 ⟨rfl, rfl⟩
      go_wp2_with fail
      go_loopg [9, 10] (T.size + 1) (fun kx v u wr => ∃ (n : Nat) (i : Nat), v = .int .u64 ((n : Nat) : Int) ∧ u = .int .i64 i ∧ i ≤ T.size ∧ T.size - i ≤ kx ∧ n ≤ 9223372036854775807 ∧ Hid (refN n (T.data.toList.drop i) = B) ∧ Hid (w2 = wr))
      case atStart => exact ⟨0, 0, rfl, rfl, by omega, by omega, by omega, by unfold Hid; rw [List.drop_zero]; exact HBB.out.symm, rfl⟩
      case round =>
        obtain ⟨n, i, rfl, rfl, hi, hkx2, hn, HF, HW⟩ := hrel
        obtain rfl := HW.out
        by_cases hlt2 : i < T.size
        · have hdr : T.data.toList.drop i = T[i]'hlt2 :: T.data.toList.drop (i + 1) := tl_cons T i hlt2
          cases h3 : digN ((T[i]'hlt2).toNat : Int)
          · have HB0 : Hid (B = false) := by
              have := HF.out
              rw [hdr, refN, if_neg (by unfold digN at h3; have := of_decide_eq_false h3; omega)] at this
              exact this.symm
            have HXX : Hid (x = (0, 0, 23)) := by
              unfold Hid; rw [HR.out, HB0.out]; rfl
            clear hdr
            go_wp2_with fail
            refine (rdigit_any _ _).mono ?_
            rintro e w1 ⟨rfl, rfl⟩
            go_wp2_with fail
            go_ret3
            exact ⟨tri_eq (a := 0) (b := 0) (c := 23) HXX.out, HB3.out⟩
          · obtain ⟨c, hc⟩ : ∃ c, c = (T[i]'hlt2).toNat := ⟨_, rfl⟩
            have hc1 : 48 ≤ c ∧ c ≤ 57 := by rw [hc]; unfold digN at h3; have := of_decide_eq_true h3; omega
            obtain ⟨d, hdd⟩ : ∃ d, d = c - 48 := ⟨_, rfl⟩
            have hF2 := HF.out
            rw [hdr, refN, ← hc, if_pos hc1, ← hdd] at hF2
            obtain ⟨q, hq⟩ : ∃ q, q = (9223372036854775807 - d) / 10 := ⟨_, rfl⟩
            have hd9 : d ≤ 9 := by omega
            have f1 : IntKind.u8.wrap ((c : Int) - 48) = (d : Int) := by rw [IntKind.wrap_u8]; omega
            have f2 : IntKind.u64.wrap (d : Int) = (d : Int) := by rw [IntKind.wrap_u64]; omega
            have f3 : IntKind.u64.wrap (9223372036854775807 - (d : Int)) = 9223372036854775807 - (d : Int) := by rw [IntKind.wrap_u64]; omega
            have f4 : (9223372036854775807 - (d : Int)) / 10 = (q : Int) := by omega
            have f5 : (9223372036854775807 - (d : Int)).tdiv 10 = (q : Int) := by rw [Int.tdiv_eq_ediv_of_nonneg (by omega)]; exact f4
            have f6 : IntKind.u64.wrap (q : Int) = (q : Int) := by rw [IntKind.wrap_u64]; omega
            have HQ := Lib.hid hq
            have HD9 := Lib.hid hdd
            have HF2 := Lib.hid hF2
            have HHC := Lib.hid hc
            clear hdr hF2 hq hdd HF
            go_wp2_with fail
            refine (rdigit_any _ _).mono ?_
            rintro e w1 ⟨rfl, rfl⟩
            rw [← hc]
            go_wp2_with fail
            · rename_i hg
              have hc := HHC.out
              have hd' := HD9.out
              have HXX : Hid (x = (0, 0, 23)) := by
                have h := HF2.out
                rw [if_pos (by omega)] at h
                unfold Hid; rw [HR.out, ← h]; rfl
              go_ret3
              exact ⟨tri_eq (a := 0) (b := 0) (c := 23) HXX.out, HB3.out⟩
            · rename_i hg
              have hc := HHC.out
              have hd' := HD9.out
              have hle : n * 10 + d ≤ 9223372036854775807 := by omega
              have HF3 : Hid (refN (n * 10 + d) (T.data.toList.drop (i + 1)) = B) := by
                have h := HF2.out
                rw [if_neg (by omega)] at h
                exact h
              go_roundg (T.size - (i + 1))
              case measure => omega
              case rel => exact ⟨n * 10 + d, i + 1, by rw [show ((n * 10 + d : Nat) : Int) = (n : Int) * 10 + (((T[i]'hlt2).toNat : Int) - 48) by omega], by go_num, by omega, by omega, hle, HF3.out, rfl⟩
        · obtain rfl : i = T.size := by omega
          have HB0 : Hid (B = true) := by
            have := HF.out
            rw [List.drop_of_length_le (by simp), refN] at this
            exact this.symm
          have HXX : Hid (x = (3, s.size, 0)) := by
            unfold Hid; rw [HR.out, HB0.out]; rfl
          have hnl2 : ¬ (T.size : Int) < (T.size : Int) := by omega
          go_wp2_with fail
          go_ret3
          exact ⟨tri_eq (a := 3) (b := s.size) (c := 0) HXX.out, HB3.out⟩
end Go.Proofs.Ytnefnnoleeeedaa

/- Contracts: the document's Lex: quoted strings. -/
namespace Go.Proofs.Ytnefnnoleeeedaa
open Go.RowKit
def quotAt (s : ByteArray) (k : Nat) : Nat × Nat × Nat := if (unq ((tl s k).take (qLong (tl s k)))).isSome = true then (4, k + qLong (tl s k), 0) else (0, 0, 22)
theorem b_nat {b : UInt8} {n : Nat} (h : (b.toNat : Int) = n) (hn : n < 256) : b = n.toUInt8 := by
  apply UInt8.toNat_inj.1
  have : b.toNat = n := by omega
  rw [this]
  simp [Nat.toUInt8, Nat.mod_eq_of_lt hn]
theorem q_shut (s : ByteArray) (j : Nat) (h : j < s.size) (hb : ((s[j]'h).toNat : Int) = 34) : qLen (tl s j) = 0 := by
  rw [tl_cons s j h]; unfold qLen
  rw [runM_stop (go := qGo) (by unfold qGo; rw [hb]; rfl)]
theorem q_go (s : ByteArray) (j : Nat) (h : j < s.size) (hb : ((s[j]'h).toNat : Int) ≠ 34) (h2 : ((s[j]'h).toNat : Int) ≠ 92) : qLen (tl s j) = 1 + qLen (tl s (j + 1)) := by
  rw [tl_cons s j h]; unfold qLen
  rw [runM_go (go := qGo) (by unfold qGo; rw [decide_eq_true hb]; rfl)]
  have : sls false ((s[j]'h).toNat : Int) = false := by unfold sls; rw [decide_eq_false h2]; rfl
  rw [this]
theorem q_sl (s : ByteArray) (j : Nat) (h : j < s.size) (h2 : ((s[j]'h).toNat : Int) = 92) : min (j + 2) s.size + qLen (tl s (j + 2)) = j + qLen (tl s j) := by
  have e1 : qLen (tl s j) = 1 + runM sls qGo true (tl s (j + 1)) := by
    rw [tl_cons s j h]; unfold qLen
    rw [runM_go (go := qGo) (by unfold qGo; rw [h2]; rfl)]
    have : sls false ((s[j]'h).toNat : Int) = true := by unfold sls; rw [h2]; rfl
    rw [this]
  by_cases hj : j + 1 < s.size
  · have e2 : runM sls qGo true (tl s (j + 1)) = 1 + qLen (tl s (j + 2)) := by
      rw [tl_cons s (j + 1) hj]; unfold qLen
      rw [runM_go (go := qGo) (by unfold qGo; rw [Bool.or_true])]
      have : sls true ((s[j + 1]'hj).toNat : Int) = false := by unfold sls; rw [Bool.not_true, Bool.and_false]
      rw [this]
    omega
  · have e2 : tl s (j + 1) = [] := tl_end s _ (by omega)
    have e3 : tl s (j + 2) = [] := tl_end s _ (by omega)
    rw [e1, e2, e3]
    unfold qLen
    rw [runM, runM]
    omega
theorem q_lf (s : ByteArray) (j : Nat) (h : j < s.size) (hb : ((s[j]'h).toNat : Int) = 10) : 1 ≤ qLen (tl s j) := by
  rw [q_go s j h (by omega) (by omega)]; omega
theorem qLong_tl (s : ByteArray) (k : Nat) (hk : k < s.size) : qLong (tl s k) = min (qLen (tl s (k + 1)) + 2) (s.size - k) := by
  unfold qLong
  rw [tl_len]
  have : (tl s k).drop 1 = tl s (k + 1) := by rw [tl_cons s k hk, List.drop_one, List.tail_cons]
  rw [this]
  congr 1
  omega
theorem quot_lf (s : ByteArray) (k j : Nat) (hk : k < s.size) (hj : j < s.size) (hkj : k < j) (hb : ((s[j]'hj).toNat : Int) = 10) (hq : j + qLen (tl s j) = k + 1 + qLen (tl s (k + 1))) : quotAt s k = (0, 0, 22) := by
  have h1 := q_lf s j hj hb
  unfold quotAt
  have : unq ((tl s k).take (qLong (tl s k))) = none := by
    refine unq_lf (i := j - k) ?_
    rw [List.getElem?_take, if_pos (by rw [qLong_tl s k hk]; omega)]
    unfold tl
    rw [List.getElem?_drop, show k + (j - k) = j by omega]
    have hl : j < s.data.toList.length := by simpa using hj
    rw [List.getElem?_eq_getElem hl]
    congr 1
    have := b_nat (b := s[j]'hj) (n := 10) hb (by decide)
    rw [show s.data.toList[j] = s[j]'hj from rfl, this]
    rfl
  rw [this, if_neg (by simp)]
theorem quot_open (s : ByteArray) (k : Nat) (hk : k < s.size) (h34 : ((s[k]'hk).toNat : Int) = 34) (hq : s.size = k + 1 + qLen (tl s (k + 1))) : quotAt s k = (0, 0, 22) := by
  unfold quotAt
  have e : (tl s k).take (qLong (tl s k)) = 34 :: tl s (k + 1) := by
    rw [qLong_tl s k hk, List.take_of_length_le (by rw [tl_len]; omega), tl_cons s k hk]
    congr 1
    exact b_nat (n := 34) h34 (by decide)
  rw [e, unq_open (by rw [tl_len]; show qLen _ = _; omega), if_neg (by simp)]
theorem quot_shut (s : ByteArray) (k j : Nat) (hk : k < s.size) (hj : j < s.size) (_hkj : k < j) (hb : ((s[j]'hj).toNat : Int) = 34) (hq : j + qLen (tl s j) = k + 1 + qLen (tl s (k + 1))) : quotAt s k = if (unq (s.extract k (j + 1)).data.toList).isSome = true then (4, j + 1, 0) else (0, 0, 22) := by
  have h1 := q_shut s j hj hb
  unfold quotAt
  have e : qLong (tl s k) = j + 1 - k := by rw [qLong_tl s k hk]; omega
  have e2 : (s.extract k (j + 1)).data.toList = (tl s k).take (j + 1 - k) := by
    have := ext_tl s k (j + 1 - k)
    rw [show k + (j + 1 - k) = j + 1 by omega] at this
    exact this
  rw [e, e2, show k + (j + 1 - k) = j + 1 by omega]

set_option maxHeartbeats 4000000 in
set_option maxRecDepth 100000 in
theorem one_quote (s : ByteArray) (k : Nat) (w : World) (hs : s.size ≤ 99998) (hk : k < s.size) (_hl : letN ((s[k]'hk).toNat : Int) = false) (_hd : digN ((s[k]'hk).toNat : Int) = false) (hq : ((s[k]'hk).toNat : Int) = 34) : Calls Try.prog 40 #[.string s, .int .i64 k] w fun e w' => e = tri (quotAt s k) ∧ Below w.heap.size w w' := by
  have B0 := Lib.hid (Below.refl w.heap.size w)
  have HQ := Lib.hid hq
  obtain ⟨x, hx⟩ : ∃ x, x = quotAt s k := ⟨_, rfl⟩
  rw [← hx]
  have HX := Lib.hid hx
  clear hx
  go_enter Try.func40, Try.ntmps40
  go_wp2_with fail
  refine (rletter_any _ _).mono ?_
  rintro e w1 ⟨rfl, rfl⟩
  go_wp2_with fail
  refine (rdigit_any _ _).mono ?_
  rintro e w1 ⟨rfl, rfl⟩
  go_wp2_with fail
  go_loopg [7] (s.size + 2) (fun kx v wr => ∃ j : Nat, v = .int .i64 j ∧ k < j ∧ j ≤ s.size + 1 ∧ s.size + 1 - j ≤ kx ∧ Hid (min j s.size + qLen (tl s j) = k + 1 + qLen (tl s (k + 1))) ∧ Hid (w = wr))
  case atStart => exact ⟨k + 1, by go_num, by omega, by omega, by omega, by unfold Hid; omega, rfl⟩
  case round =>
    obtain ⟨j, rfl, hkj, hj, hkx, HI, HB⟩ := hrel
    obtain rfl := HB.out
    by_cases hlt : j < s.size
    · have HI2 : Hid (j + qLen (tl s j) = k + 1 + qLen (tl s (k + 1))) := by have := HI.out; unfold Hid; omega
      by_cases h34 : ((s[j]'hlt).toNat : Int) = 34
      · have m10 : (((s[j]'hlt).toNat : Int) == 10) = false := by rw [beq_eq_false_iff_ne]; omega
        have hge : ¬ (j : Int) ≥ (s.size : Int) := by omega
        have HS := Lib.hid (quot_shut s k j hk hlt hkj h34 HI2.out)
        go_wp2_with fail
        obtain ⟨T, hT⟩ : ∃ T, T = s.extract k (j + 1) := ⟨_, rfl⟩
        rw [← hT]
        have HS2 : Hid (x = if (unq T.data.toList).isSome = true then (4, j + 1, 0) else (0, 0, 22)) := by
          unfold Hid; rw [HX.out, hT]; exact HS.out
        have hTs : T.size ≤ 100000 := by rw [hT, ByteArray.size_extract]; omega
        clear hT
        refine (runquote_any _ _ hTs).mono ?_
        rintro e w2 ⟨rfl, rfl⟩
        cases hu : unq T.data.toList with
        | some o =>
          have hue : uq T.data.toList = .returned (.tuple #[.string ⟨o.toArray⟩, .int .i64 0]) := by unfold uq; rw [hu]
          have HXX : Hid (x = (4, j + 1, 0)) := by unfold Hid; rw [HS2.out, hu]; rfl
          rw [hue]
          clear hue hu
          go_wp2_with fail
          go_ret3
          exact ⟨tri_eq (a := 4) (b := j + 1) (c := 0) HXX.out, B0.out⟩
        | none =>
          have hue : uq T.data.toList = .returned (.tuple #[.string ⟨#[]⟩, .int .i64 22]) := by unfold uq; rw [hu]
          have HXX : Hid (x = (0, 0, 22)) := by unfold Hid; rw [HS2.out, hu]; rfl
          rw [hue]
          clear hue hu
          go_wp2_with fail
          go_ret3
          exact ⟨tri_eq (a := 0) (b := 0) (c := 22) HXX.out, B0.out⟩
      · have m34 : (((s[j]'hlt).toNat : Int) == 34) = false := by rw [beq_eq_false_iff_ne]; exact h34
        by_cases h10 : ((s[j]'hlt).toNat : Int) = 10
        · have hge : ¬ (j : Int) ≥ (s.size : Int) := by omega
          have HXX : Hid (x = (0, 0, 22)) := by unfold Hid; rw [HX.out]; exact quot_lf s k j hk hlt hkj h10 HI2.out
          clear h34
          go_wp2_with fail
          go_ret3
          exact ⟨tri_eq (a := 0) (b := 0) (c := 22) HXX.out, B0.out⟩
        · have m10 : (((s[j]'hlt).toNat : Int) == 10) = false := by rw [beq_eq_false_iff_ne]; exact h10
          by_cases h92 : ((s[j]'hlt).toNat : Int) = 92
          · have HI3 : Hid (min (j + 2) s.size + qLen (tl s (j + 2)) = k + 1 + qLen (tl s (k + 1))) := by
              unfold Hid; rw [q_sl s j hlt h92]; exact HI2.out
            clear h34 h10
            go_wp2_with fail
            go_roundg (s.size + 1 - (j + 2))
            case measure => omega
            case rel => exact ⟨j + 2, by go_num, by omega, by omega, by omega, HI3.out, rfl⟩
          · have m92 : (((s[j]'hlt).toNat : Int) == 92) = false := by rw [beq_eq_false_iff_ne]; exact h92
            have p34 : (((s[j]'hlt).toNat : Int) != 34) = true := by rw [bne_iff_ne]; exact h34
            have p10 : (((s[j]'hlt).toNat : Int) != 10) = true := by rw [bne_iff_ne]; exact h10
            have HI3 : Hid (min (j + 1) s.size + qLen (tl s (j + 1)) = k + 1 + qLen (tl s (k + 1))) := by
              have h1 := q_go s j hlt h34 h92
              have h2 := HI2.out
              unfold Hid; omega
            clear h34 h10 h92
            go_wp2_with fail
            go_roundg (s.size + 1 - (j + 1))
            case measure => omega
            case rel => exact ⟨j + 1, by go_num, by omega, by omega, by omega, HI3.out, rfl⟩
    · have hnl : ¬ (j : Int) < (s.size : Int) := by omega
      have hge : (j : Int) ≥ (s.size : Int) := by omega
      have HXX : Hid (x = (0, 0, 22)) := by
        unfold Hid; rw [HX.out]
        refine quot_open s k hk HQ.out ?_
        have := HI.out
        rw [tl_end s j (by omega)] at this
        have h0 : qLen [] = 0 := by unfold qLen; rw [runM]
        omega
      go_wp2_with fail
      go_ret3
      exact ⟨tri_eq (a := 0) (b := 0) (c := 22) HXX.out, B0.out⟩
end Go.Proofs.Ytnefnnoleeeedaa

