/- Contracts: the document's answer for a character at a place. -/
import Derived.Deep.LoopGhost
import Derived.Test.YtnefnnoleeeedaaMAA
import Derived.Lib.LaidU8
import Derived.IntWalk
import Derived.StillTailTactics
import Derived.BigRegion
import Derived.RegionTactic
import Derived.ChangeAlike
import Derived.Outline
namespace Go.Proofs.Ytnefnnoleeeedaa
open Go.RowKit
set_option maxHeartbeats 400000 in
theorem more_any (b : Int) (w : World) : Calls Try.prog 85 #[.int .u8 b] w fun e w' => e = .returned (.bool (decide (128 ≤ b) && decide (b < 192))) ∧ w = w' := by
  go_enter Try.func85, Try.ntmps85
  go_wp2
  all_goals
    go_ret
    exact ⟨rb (by simp <;> omega), rfl⟩

set_option maxHeartbeats 1000000 in
set_option maxRecDepth 100000 in
theorem rnext_ascii (s : ByteArray) (k : Nat) (w : World) (_hs : s.size ≤ 100000) (hk : k < s.size) (hb : gb s k < 128) :
    Calls Try.prog 58 #[.string s, .int .i64 k] w fun e w' => e = trip (tl s k) ∧ w = w' := by
  have hg := gb_of s k hk
  have h0 := gb_lt s k
  have h3 : ((s[k]'hk).toNat : Int) < 256 := by omega
  have hb' : ((s[k]'hk).toNat : Int) < 128 := by omega
  have HG := Lib.hid hg
  clear hg
  go_enter Try.func58, Try.ntmps58
  go_wp2
  go_ret3
  exact ⟨trip_good (x := gb s k) (n := 1) (by rw [dec_tl, dN_ascii _ _ _ _ _ hb]) (.inr hb) (by rw [HG.out]) rfl, rfl⟩

set_option maxHeartbeats 1000000 in
set_option maxRecDepth 100000 in
theorem rnext_none (s : ByteArray) (k : Nat) (w : World) (_hs : s.size ≤ 100000) (hk : k < s.size) (hb : 128 ≤ gb s k) (hb' : gb s k < 192 ∨ 248 ≤ gb s k) :
    Calls Try.prog 58 #[.string s, .int .i64 k] w fun e w' => e = trip (tl s k) ∧ w = w' := by
  have hg := gb_of s k hk
  have h0 := gb_lt s k
  have h3 : ((s[k]'hk).toNat : Int) < 256 := by omega
  have hd : dec (tl s k) = (65533, 1) := by rw [dec_tl, dN_none _ _ _ _ _ hb hb' (gb_lt s k)]
  have HD := Lib.hid hd
  rcases hb' with hb' | hb'
  · have h1 : 128 ≤ ((s[k]'hk).toNat : Int) := by omega
    have h2 : ((s[k]'hk).toNat : Int) < 192 := by omega
    clear hg hd
    go_enter Try.func58, Try.ntmps58
    go_wp2
    go_ret3
    exact ⟨trip_bad HD.out, rfl⟩
  · have h1 : 248 ≤ ((s[k]'hk).toNat : Int) := by omega
    clear hg hd
    go_enter Try.func58, Try.ntmps58
    go_wp2
    go_ret3
    exact ⟨trip_bad HD.out, rfl⟩

theorem more_yes (b : Int) (w : World) (h0 : 128 ≤ b) (h1 : b < 192) : Calls Try.prog 85 #[.int .u8 b] w fun e w' => e = .returned (.bool true) ∧ w = w' :=
  (more_any b w).mono fun e w' ⟨he, hw⟩ => ⟨by rw [he, decide_eq_true h0, decide_eq_true h1]; rfl, hw⟩
theorem more_no (b : Int) (w : World) (h : b < 128 ∨ 192 ≤ b) : Calls Try.prog 85 #[.int .u8 b] w fun e w' => e = .returned (.bool false) ∧ w = w' :=
  (more_any b w).mono fun e w' ⟨he, hw⟩ => ⟨by
    rw [he]
    rcases h with h | h
    · rw [decide_eq_false (by omega)]; rfl
    · rw [decide_eq_false (p := b < 192) (by omega), Bool.and_false], hw⟩
/-- What a form's bytes come to, place by place. -/
def acc (s : ByteArray) (k : Nat) (f0 : Int) : Nat → Int
  | 0 => f0
  | j + 1 => acc s k f0 j * 64 + gb s (k + (j + 1)) - 128
def St (s : ByteArray) (k : Nat) (f0 : Int) (j : Nat) (v : Int) : Prop := v = acc s k f0 (j - 1) ∧ ∀ t, 1 ≤ t → t < j → 128 ≤ gb s (k + t) ∧ gb s (k + t) < 192
theorem St.first (s : ByteArray) (k : Nat) (f0 : Int) : St s k f0 1 f0 := ⟨rfl, fun t h1 h2 => by omega⟩
theorem St.next {s : ByteArray} {k j : Nat} {f0 v : Int} (h : St s k f0 j v) (hj : 1 ≤ j) (h1 : 128 ≤ gb s (k + j)) (h2 : gb s (k + j) < 192) {x : Int} (hx : x = v * 64 + gb s (k + j) - 128) : St s k f0 (j + 1) x := by
  obtain ⟨j, rfl⟩ : ∃ i, j = i + 1 := ⟨j - 1, by omega⟩
  refine ⟨by rw [hx, h.1]; rfl, fun t a b => ?_⟩
  by_cases e : t = j + 1
  · subst e; exact ⟨h1, h2⟩
  · exact h.2 t a (by omega)
theorem St.bound {s : ByteArray} {k j : Nat} {f0 v : Int} (h : St s k f0 j v) (h0 : 0 ≤ f0) (h1 : f0 < 32) (hj : 1 ≤ j) (hj' : j ≤ 4) : 0 ≤ v ∧ v < 8388608 := by
  obtain ⟨rfl, hc⟩ := h
  rcases (by omega : j = 1 ∨ j = 2 ∨ j = 3 ∨ j = 4) with rfl | rfl | rfl | rfl
  · simp [acc]; omega
  · have c1 := hc 1 (by omega) (by omega)
    simp [acc]; omega
  · have c1 := hc 1 (by omega) (by omega)
    have c2 := hc 2 (by omega) (by omega)
    simp [acc]; omega
  · have c1 := hc 1 (by omega) (by omega)
    have c2 := hc 2 (by omega) (by omega)
    have c3 := hc 3 (by omega) (by omega)
    simp [acc]; omega

theorem two_bad {s : ByteArray} {k j : Nat} (hb : 192 ≤ gb s k) (hb' : gb s k < 224) (h1 : 1 ≤ j) (h2 : j < 2) (h : gb s (k + j) < 128 ∨ 192 ≤ gb s (k + j)) : dec (tl s k) = (65533, 1) := by
  rw [dec_tl]
  have q : gb s (k + 1) < 128 ∨ 192 ≤ gb s (k + 1) := by
    rcases (by omega : j = 1) with rfl <;> omega
  exact dN_two_bad _ _ _ _ _ hb hb' (.inr q) (gb_lt s _)
theorem two_end {s : ByteArray} {k : Nat} {v : Int} (hb : 192 ≤ gb s k) (hb' : gb s k < 224) (hn : k + 2 ≤ s.size) (h : St s k ((gb s k : Int) - 192) 2 v) :
    dec (tl s k) = if fits 2 v = true then (v.toNat, 2) else (65533, 1) := by
  rw [dec_tl]
  obtain ⟨rfl, hc⟩ := h
  have c1 := hc 1 (by omega) (by omega)
  exact dN_two _ _ _ _ _ hb hb' (by omega) c1.1 c1.2

set_option maxHeartbeats 2000000 in
set_option maxRecDepth 100000 in
theorem rnext_two (s : ByteArray) (k : Nat) (w : World) (hs : s.size ≤ 100000) (hk : k < s.size) (hb : 192 ≤ gb s k) (hb' : gb s k < 224) :
    Calls Try.prog 58 #[.string s, .int .i64 k] w fun e w' => e = trip (tl s k) ∧ w = w' := by
  have hg := gb_of s k hk
  have h1 : 192 ≤ ((s[k]'hk).toNat : Int) := by omega
  have h2 : ((s[k]'hk).toNat : Int) < 224 := by omega
  by_cases hn : s.size < k + 2
  · have hd : dec (tl s k) = (65533, 1) := by rw [dec_tl, dN_two_bad _ _ _ _ _ hb hb' (.inl (by omega)) (gb_lt s _)]
    have HD := Lib.hid hd
    have hn' : (s.size : Int) - k < 2 := by omega
    clear hg hd
    go_enter Try.func58, Try.ntmps58
    go_wp2
    go_ret3
    exact ⟨trip_bad HD.out, rfl⟩
  · have hn' : ¬ ((s.size : Int) - k < 2) := by omega
    have HG := Lib.hid hg
    clear hg
    go_enter Try.func58, Try.ntmps58
    go_wp2_with fail
    go_loopg [9, 11] 2 (fun kx x i wr => ∃ (j : Nat) (v : Int), x = .int .i64 v ∧ i = .int .i64 j ∧ 1 ≤ j ∧ j ≤ 2 ∧ 2 - j ≤ kx ∧ 0 ≤ v ∧ v < 8388608 ∧ Hid (St s k ((gb s k : Int) - 192) j v) ∧ Hid (w = wr))
    case atStart => exact ⟨1, _, rfl, rfl, by omega, by omega, by omega, by omega, by omega, by rw [HG.out]; exact St.first _ _ _, rfl⟩
    case round =>
      obtain ⟨j, v, rfl, rfl, hj1, hj2, hkx, hv0, hv1, HS, HW⟩ := hrel
      obtain rfl := HW.out
      by_cases hlt : j < 2
      · have hkj : k + j < s.size := by omega
        have hgj := gb_of s (k + j) hkj
        have hlj := gb_lt s (k + j)
        have h4 : ((s[k + j]'hkj).toNat : Int) < 256 := by omega
        by_cases hc : 128 ≤ gb s (k + j) ∧ gb s (k + j) < 192
        · have c1 : 128 ≤ ((s[k + j]'hkj).toNat : Int) := by omega
          have c2 : ((s[k + j]'hkj).toNat : Int) < 192 := by omega
          have HGJ := Lib.hid hgj
          clear hgj hlj
          go_wp2_with (go_at_call 85; refine (more_yes _ _ (by omega) (by omega)).mono ?_; rintro e w' ⟨rfl, rfl⟩)
          have hst : St s k ((gb s k : Int) - 192) (j + 1) (v * 64 + (s[k + j]'hkj).toNat - 128) := HS.out.next hj1 hc.1 hc.2 (by rw [HGJ.out])
          have hbd := hst.bound (by omega) (by omega) (by omega) (by omega)
          go_roundg (2 - (j + 1))
          case measure => omega
          case rel => exact ⟨j + 1, _, rfl, by go_num, by omega, by omega, by omega, hbd.1, hbd.2, hst, rfl⟩
        · have hd := two_bad hb hb' hj1 hlt (by omega)
          have HD := Lib.hid hd
          clear hd
          by_cases c1 : 128 ≤ gb s (k + j)
          · have c2 : 192 ≤ ((s[k + j]'hkj).toNat : Int) := by omega
            clear hgj hlj
            go_wp2_with (go_at_call 85; refine (more_no _ _ (by omega)).mono ?_; rintro e w' ⟨rfl, rfl⟩)
            go_ret3
            exact ⟨trip_bad HD.out, rfl⟩
          · have c2 : ((s[k + j]'hkj).toNat : Int) < 128 := by omega
            clear hgj hlj
            go_wp2_with (go_at_call 85; refine (more_no _ _ (by omega)).mono ?_; rintro e w' ⟨rfl, rfl⟩)
            go_ret3
            exact ⟨trip_bad HD.out, rfl⟩
      · obtain rfl : j = 2 := by omega
        have hd := two_end hb hb' (by omega) HS.out
        by_cases f1 : v < 128
        · have f : fits 2 v = false := by simp [fits]; omega
          rw [f] at hd
          have HD := Lib.hid hd
          clear hd f
          go_wp2
          go_ret3
          exact ⟨trip_bad HD.out, rfl⟩
        by_cases f2 : v > 1114111
        · have f : fits 2 v = false := by simp [fits]; omega
          rw [f] at hd
          have HD := Lib.hid hd
          clear hd f
          go_wp2
          go_ret3
          exact ⟨trip_bad HD.out, rfl⟩
        by_cases f3 : 55296 ≤ v ∧ v < 57344
        · have f : fits 2 v = false := by simp [fits]; omega
          obtain ⟨f3, f4⟩ := f3
          rw [f] at hd
          have HD := Lib.hid hd
          clear hd f
          go_wp2
          go_ret3
          exact ⟨trip_bad HD.out, rfl⟩
        · have f : fits 2 v = true := by simp [fits]; omega
          rw [f] at hd
          have HD := Lib.hid hd
          clear hd f
          by_cases f4 : 55296 ≤ v
          · have f5 : ¬ v < 57344 := by omega
            clear f3
            go_wp2
            go_ret3
            exact ⟨trip_good (x := v.toNat) (n := 2) HD.out (.inl (by omega)) (by omega) rfl, rfl⟩
          · clear f3
            go_wp2
            go_ret3
            exact ⟨trip_good (x := v.toNat) (n := 2) HD.out (.inl (by omega)) (by omega) rfl, rfl⟩

theorem three_bad {s : ByteArray} {k j : Nat} (hb : 224 ≤ gb s k) (hb' : gb s k < 240) (h1 : 1 ≤ j) (h2 : j < 3) (h : gb s (k + j) < 128 ∨ 192 ≤ gb s (k + j)) : dec (tl s k) = (65533, 1) := by
  rw [dec_tl]
  have q : gb s (k + 1) < 128 ∨ 192 ≤ gb s (k + 1) ∨ gb s (k + 2) < 128 ∨ 192 ≤ gb s (k + 2) := by
    rcases (by omega : j = 1 ∨ j = 2) with rfl | rfl <;> omega
  exact dN_three_bad _ _ _ _ _ hb hb' (.inr q) (gb_lt s _) (gb_lt s _)
theorem three_end {s : ByteArray} {k : Nat} {v : Int} (hb : 224 ≤ gb s k) (hb' : gb s k < 240) (hn : k + 3 ≤ s.size) (h : St s k ((gb s k : Int) - 224) 3 v) :
    dec (tl s k) = if fits 3 v = true then (v.toNat, 3) else (65533, 1) := by
  rw [dec_tl]
  obtain ⟨rfl, hc⟩ := h
  have c1 := hc 1 (by omega) (by omega)
  have c2 := hc 2 (by omega) (by omega)
  exact dN_three _ _ _ _ _ hb hb' (by omega) c1.1 c1.2 c2.1 c2.2

set_option maxHeartbeats 2000000 in
set_option maxRecDepth 100000 in
theorem rnext_three (s : ByteArray) (k : Nat) (w : World) (hs : s.size ≤ 100000) (hk : k < s.size) (hb : 224 ≤ gb s k) (hb' : gb s k < 240) :
    Calls Try.prog 58 #[.string s, .int .i64 k] w fun e w' => e = trip (tl s k) ∧ w = w' := by
  have hg := gb_of s k hk
  have h1 : 224 ≤ ((s[k]'hk).toNat : Int) := by omega
  have h2 : ((s[k]'hk).toNat : Int) < 240 := by omega
  by_cases hn : s.size < k + 3
  · have hd : dec (tl s k) = (65533, 1) := by rw [dec_tl, dN_three_bad _ _ _ _ _ hb hb' (.inl (by omega)) (gb_lt s _) (gb_lt s _)]
    have HD := Lib.hid hd
    have hn' : (s.size : Int) - k < 3 := by omega
    clear hg hd
    go_enter Try.func58, Try.ntmps58
    go_wp2
    go_ret3
    exact ⟨trip_bad HD.out, rfl⟩
  · have hn' : ¬ ((s.size : Int) - k < 3) := by omega
    have HG := Lib.hid hg
    clear hg
    go_enter Try.func58, Try.ntmps58
    go_wp2_with fail
    go_loopg [9, 11] 3 (fun kx x i wr => ∃ (j : Nat) (v : Int), x = .int .i64 v ∧ i = .int .i64 j ∧ 1 ≤ j ∧ j ≤ 3 ∧ 3 - j ≤ kx ∧ 0 ≤ v ∧ v < 8388608 ∧ Hid (St s k ((gb s k : Int) - 224) j v) ∧ Hid (w = wr))
    case atStart => exact ⟨1, _, rfl, rfl, by omega, by omega, by omega, by omega, by omega, by rw [HG.out]; exact St.first _ _ _, rfl⟩
    case round =>
      obtain ⟨j, v, rfl, rfl, hj1, hj2, hkx, hv0, hv1, HS, HW⟩ := hrel
      obtain rfl := HW.out
      by_cases hlt : j < 3
      · have hkj : k + j < s.size := by omega
        have hgj := gb_of s (k + j) hkj
        have hlj := gb_lt s (k + j)
        have h4 : ((s[k + j]'hkj).toNat : Int) < 256 := by omega
        by_cases hc : 128 ≤ gb s (k + j) ∧ gb s (k + j) < 192
        · have c1 : 128 ≤ ((s[k + j]'hkj).toNat : Int) := by omega
          have c2 : ((s[k + j]'hkj).toNat : Int) < 192 := by omega
          have HGJ := Lib.hid hgj
          clear hgj hlj
          go_wp2_with (go_at_call 85; refine (more_yes _ _ (by omega) (by omega)).mono ?_; rintro e w' ⟨rfl, rfl⟩)
          have hst : St s k ((gb s k : Int) - 224) (j + 1) (v * 64 + (s[k + j]'hkj).toNat - 128) := HS.out.next hj1 hc.1 hc.2 (by rw [HGJ.out])
          have hbd := hst.bound (by omega) (by omega) (by omega) (by omega)
          go_roundg (3 - (j + 1))
          case measure => omega
          case rel => exact ⟨j + 1, _, rfl, by go_num, by omega, by omega, by omega, hbd.1, hbd.2, hst, rfl⟩
        · have hd := three_bad hb hb' hj1 hlt (by omega)
          have HD := Lib.hid hd
          clear hd
          by_cases c1 : 128 ≤ gb s (k + j)
          · have c2 : 192 ≤ ((s[k + j]'hkj).toNat : Int) := by omega
            clear hgj hlj
            go_wp2_with (go_at_call 85; refine (more_no _ _ (by omega)).mono ?_; rintro e w' ⟨rfl, rfl⟩)
            go_ret3
            exact ⟨trip_bad HD.out, rfl⟩
          · have c2 : ((s[k + j]'hkj).toNat : Int) < 128 := by omega
            clear hgj hlj
            go_wp2_with (go_at_call 85; refine (more_no _ _ (by omega)).mono ?_; rintro e w' ⟨rfl, rfl⟩)
            go_ret3
            exact ⟨trip_bad HD.out, rfl⟩
      · obtain rfl : j = 3 := by omega
        have hd := three_end hb hb' (by omega) HS.out
        by_cases f1 : v < 2048
        · have f : fits 3 v = false := by simp [fits]; omega
          rw [f] at hd
          have HD := Lib.hid hd
          clear hd f
          go_wp2
          go_ret3
          exact ⟨trip_bad HD.out, rfl⟩
        by_cases f2 : v > 1114111
        · have f : fits 3 v = false := by simp [fits]; omega
          rw [f] at hd
          have HD := Lib.hid hd
          clear hd f
          go_wp2
          go_ret3
          exact ⟨trip_bad HD.out, rfl⟩
        by_cases f3 : 55296 ≤ v ∧ v < 57344
        · have f : fits 3 v = false := by simp [fits]; omega
          obtain ⟨f3, f4⟩ := f3
          rw [f] at hd
          have HD := Lib.hid hd
          clear hd f
          go_wp2
          go_ret3
          exact ⟨trip_bad HD.out, rfl⟩
        · have f : fits 3 v = true := by simp [fits]; omega
          rw [f] at hd
          have HD := Lib.hid hd
          clear hd f
          by_cases f4 : 55296 ≤ v
          · have f5 : ¬ v < 57344 := by omega
            clear f3
            go_wp2
            go_ret3
            exact ⟨trip_good (x := v.toNat) (n := 3) HD.out (.inl (by omega)) (by omega) rfl, rfl⟩
          · clear f3
            go_wp2
            go_ret3
            exact ⟨trip_good (x := v.toNat) (n := 3) HD.out (.inl (by omega)) (by omega) rfl, rfl⟩

theorem four_bad {s : ByteArray} {k j : Nat} (hb : 240 ≤ gb s k) (hb' : gb s k < 248) (h1 : 1 ≤ j) (h2 : j < 4) (h : gb s (k + j) < 128 ∨ 192 ≤ gb s (k + j)) : dec (tl s k) = (65533, 1) := by
  rw [dec_tl]
  have q : gb s (k + 1) < 128 ∨ 192 ≤ gb s (k + 1) ∨ gb s (k + 2) < 128 ∨ 192 ≤ gb s (k + 2) ∨ gb s (k + 3) < 128 ∨ 192 ≤ gb s (k + 3) := by
    rcases (by omega : j = 1 ∨ j = 2 ∨ j = 3) with rfl | rfl | rfl <;> omega
  exact dN_four_bad _ _ _ _ _ hb hb' (.inr q) (gb_lt s _) (gb_lt s _) (gb_lt s _)
theorem four_end {s : ByteArray} {k : Nat} {v : Int} (hb : 240 ≤ gb s k) (hb' : gb s k < 248) (hn : k + 4 ≤ s.size) (h : St s k ((gb s k : Int) - 240) 4 v) :
    dec (tl s k) = if fits 4 v = true then (v.toNat, 4) else (65533, 1) := by
  rw [dec_tl]
  obtain ⟨rfl, hc⟩ := h
  have c1 := hc 1 (by omega) (by omega)
  have c2 := hc 2 (by omega) (by omega)
  have c3 := hc 3 (by omega) (by omega)
  exact dN_four _ _ _ _ _ hb hb' (by omega) c1.1 c1.2 c2.1 c2.2 c3.1 c3.2

set_option maxHeartbeats 2000000 in
set_option maxRecDepth 100000 in
theorem rnext_four (s : ByteArray) (k : Nat) (w : World) (hs : s.size ≤ 100000) (hk : k < s.size) (hb : 240 ≤ gb s k) (hb' : gb s k < 248) :
    Calls Try.prog 58 #[.string s, .int .i64 k] w fun e w' => e = trip (tl s k) ∧ w = w' := by
  have hg := gb_of s k hk
  have h1 : 240 ≤ ((s[k]'hk).toNat : Int) := by omega
  have h2 : ((s[k]'hk).toNat : Int) < 248 := by omega
  by_cases hn : s.size < k + 4
  · have hd : dec (tl s k) = (65533, 1) := by rw [dec_tl, dN_four_bad _ _ _ _ _ hb hb' (.inl (by omega)) (gb_lt s _) (gb_lt s _) (gb_lt s _)]
    have HD := Lib.hid hd
    have hn' : (s.size : Int) - k < 4 := by omega
    clear hg hd
    go_enter Try.func58, Try.ntmps58
    go_wp2
    go_ret3
    exact ⟨trip_bad HD.out, rfl⟩
  · have hn' : ¬ ((s.size : Int) - k < 4) := by omega
    have HG := Lib.hid hg
    clear hg
    go_enter Try.func58, Try.ntmps58
    go_wp2_with fail
    go_loopg [9, 11] 4 (fun kx x i wr => ∃ (j : Nat) (v : Int), x = .int .i64 v ∧ i = .int .i64 j ∧ 1 ≤ j ∧ j ≤ 4 ∧ 4 - j ≤ kx ∧ 0 ≤ v ∧ v < 8388608 ∧ Hid (St s k ((gb s k : Int) - 240) j v) ∧ Hid (w = wr))
    case atStart => exact ⟨1, _, rfl, rfl, by omega, by omega, by omega, by omega, by omega, by rw [HG.out]; exact St.first _ _ _, rfl⟩
    case round =>
      obtain ⟨j, v, rfl, rfl, hj1, hj2, hkx, hv0, hv1, HS, HW⟩ := hrel
      obtain rfl := HW.out
      by_cases hlt : j < 4
      · have hkj : k + j < s.size := by omega
        have hgj := gb_of s (k + j) hkj
        have hlj := gb_lt s (k + j)
        have h4 : ((s[k + j]'hkj).toNat : Int) < 256 := by omega
        by_cases hc : 128 ≤ gb s (k + j) ∧ gb s (k + j) < 192
        · have c1 : 128 ≤ ((s[k + j]'hkj).toNat : Int) := by omega
          have c2 : ((s[k + j]'hkj).toNat : Int) < 192 := by omega
          have HGJ := Lib.hid hgj
          clear hgj hlj
          go_wp2_with (go_at_call 85; refine (more_yes _ _ (by omega) (by omega)).mono ?_; rintro e w' ⟨rfl, rfl⟩)
          have hst : St s k ((gb s k : Int) - 240) (j + 1) (v * 64 + (s[k + j]'hkj).toNat - 128) := HS.out.next hj1 hc.1 hc.2 (by rw [HGJ.out])
          have hbd := hst.bound (by omega) (by omega) (by omega) (by omega)
          go_roundg (4 - (j + 1))
          case measure => omega
          case rel => exact ⟨j + 1, _, rfl, by go_num, by omega, by omega, by omega, hbd.1, hbd.2, hst, rfl⟩
        · have hd := four_bad hb hb' hj1 hlt (by omega)
          have HD := Lib.hid hd
          clear hd
          by_cases c1 : 128 ≤ gb s (k + j)
          · have c2 : 192 ≤ ((s[k + j]'hkj).toNat : Int) := by omega
            clear hgj hlj
            go_wp2_with (go_at_call 85; refine (more_no _ _ (by omega)).mono ?_; rintro e w' ⟨rfl, rfl⟩)
            go_ret3
            exact ⟨trip_bad HD.out, rfl⟩
          · have c2 : ((s[k + j]'hkj).toNat : Int) < 128 := by omega
            clear hgj hlj
            go_wp2_with (go_at_call 85; refine (more_no _ _ (by omega)).mono ?_; rintro e w' ⟨rfl, rfl⟩)
            go_ret3
            exact ⟨trip_bad HD.out, rfl⟩
      · obtain rfl : j = 4 := by omega
        have hd := four_end hb hb' (by omega) HS.out
        by_cases f1 : v < 65536
        · have f : fits 4 v = false := by simp [fits]; omega
          rw [f] at hd
          have HD := Lib.hid hd
          clear hd f
          go_wp2
          go_ret3
          exact ⟨trip_bad HD.out, rfl⟩
        by_cases f2 : v > 1114111
        · have f : fits 4 v = false := by simp [fits]; omega
          rw [f] at hd
          have HD := Lib.hid hd
          clear hd f
          go_wp2
          go_ret3
          exact ⟨trip_bad HD.out, rfl⟩
        by_cases f3 : 55296 ≤ v ∧ v < 57344
        · have f : fits 4 v = false := by simp [fits]; omega
          obtain ⟨f3, f4⟩ := f3
          rw [f] at hd
          have HD := Lib.hid hd
          clear hd f
          go_wp2
          go_ret3
          exact ⟨trip_bad HD.out, rfl⟩
        · have f : fits 4 v = true := by simp [fits]; omega
          rw [f] at hd
          have HD := Lib.hid hd
          clear hd f
          by_cases f4 : 55296 ≤ v
          · have f5 : ¬ v < 57344 := by omega
            clear f3
            go_wp2
            go_ret3
            exact ⟨trip_good (x := v.toNat) (n := 4) HD.out (.inl (by omega)) (by omega) rfl, rfl⟩
          · clear f3
            go_wp2
            go_ret3
            exact ⟨trip_good (x := v.toNat) (n := 4) HD.out (.inl (by omega)) (by omega) rfl, rfl⟩

theorem rnext_any (s : ByteArray) (k : Nat) (w : World) (hs : s.size ≤ 100000) (hk : k < s.size) :
    Calls Try.prog 58 #[.string s, .int .i64 k] w fun e w' => e = trip (tl s k) ∧ w = w' := by
  by_cases h1 : gb s k < 128
  · exact rnext_ascii s k w hs hk h1
  by_cases h2 : gb s k < 192
  · exact rnext_none s k w hs hk (by omega) (.inl h2)
  by_cases h3 : gb s k < 224
  · exact rnext_two s k w hs hk (by omega) h3
  by_cases h4 : gb s k < 240
  · exact rnext_three s k w hs hk (by omega) h4
  by_cases h5 : gb s k < 248
  · exact rnext_four s k w hs hk (by omega) h5
  · exact rnext_none s k w hs hk (by omega) (.inr (by omega))
end Go.Proofs.Ytnefnnoleeeedaa

/- Contracts: what package runes and the document's answer say of a text's characters. -/
namespace Go.Proofs.Ytnefnnoleeeedaa
open Go.RowKit

abbrev Tabs (w : World) : Prop := Lib.Utf8Tabs 1 2 w

end Go.Proofs.Ytnefnnoleeeedaa

/- Contracts: where a text stops being UTF-8, how many characters it has, by package runes and by the document's answer. -/
namespace Go.Proofs.Ytnefnnoleeeedaa
open Go.RowKit

/-- All ahead of a place is UTF-8. -/
def Upto (s : ByteArray) (k : Nat) : Prop := badAt s.data.toList = (badAt (tl s k)).map (· + k)
theorem tl_zero (s : ByteArray) : tl s 0 = s.data.toList := rfl
theorem Upto.first (s : ByteArray) : Upto s 0 := by
  unfold Upto
  rw [tl_zero]
  cases badAt s.data.toList <;> simp
theorem Upto.next {s : ByteArray} {k : Nat} (h : Upto s k) (hk : k < s.size) (hok : okc (tl s k) = true) : Upto s (k + (dec (tl s k)).2) := by
  unfold Upto at h ⊢
  rw [h, bad_step (tl_ne s k hk) hok, tl_drop, Option.map_map]
  congr 1
  funext x
  simp only [Function.comp_apply]
  omega
theorem Upto.here {s : ByteArray} {k : Nat} (h : Upto s k) (hk : k < s.size) (hok : okc (tl s k) = false) : badI s.data.toList = k := by
  unfold Upto at h
  rw [bad_here (tl_ne s k hk) hok] at h
  unfold badI
  rw [h]
  simp
theorem Upto.done {s : ByteArray} {k : Nat} (h : Upto s k) (hk : s.size ≤ k) : badI s.data.toList = -1 := by
  unfold Upto at h
  rw [tl_end s k hk, bad_nil] at h
  exact badI_none h

set_option maxHeartbeats 2000000 in
theorem rbad_any (s : ByteArray) (w : World) (hs : s.size ≤ 100000) :
    Calls Try.prog 38 #[.string s] w fun e w' => e = .returned (.int .i64 (badI s.data.toList)) ∧ w = w' := by
  go_enter Try.func38, Try.ntmps38
  go_wp2_with fail
  go_loopg [3] s.size (fun kx a wr => ∃ k : Nat, a = .int .i64 k ∧ k ≤ s.size ∧ s.size - k ≤ kx ∧ Hid (Upto s k) ∧ Hid (w = wr))
  case atStart => exact ⟨0, rfl, by omega, by omega, Upto.first s, rfl⟩
  case round =>
    obtain ⟨k, rfl, hk, hkx, HU, HW⟩ := hrel
    obtain rfl := HW.out
    by_cases hlt : k < s.size
    · have hlz : (k : Int) < (s.size : Int) := by omega
      have hd := dec_w s k hlt
      obtain ⟨n, hn⟩ : ∃ n, n = (dec (tl s k)).2 := ⟨_, rfl⟩
      have c := rnext_any s k w hs hlt
      unfold trip at c
      rw [← hn] at c hd
      cases hok : okc (tl s k)
      · rw [hok] at c
        have C := Lib.hid c
        have HF := Lib.hid (HU.out.here hlt hok)
        clear c hn hok
        go_wp2_with fail
        refine C.out.mono ?_
        rintro e w1 ⟨rfl, rfl⟩
        go_wp2_with fail
        go_ret
        exact ⟨ri HF.out.symm, rfl⟩
      · rw [hok] at c
        have C := Lib.hid c
        have HF := Lib.hid (HU.out.next hlt hok)
        rw [← hn] at HF
        clear c hn hok
        go_wp2_with fail
        refine C.out.mono ?_
        rintro e w1 ⟨rfl, rfl⟩
        go_wp2_with fail
        go_roundg (s.size - (k + n))
        case measure => omega
        case rel => exact ⟨k + n, by go_num, by omega, by omega, HF.out, rfl⟩
    · have hlz : ¬ (k : Int) < (s.size : Int) := by omega
      have HF := Lib.hid (HU.out.done (by omega))
      go_wp2_with fail
      go_ret
      exact ⟨ri HF.out.symm, rfl⟩

end Go.Proofs.Ytnefnnoleeeedaa

/- Contracts: strings and signs at a text's beginning; the first token. -/
namespace Go.Proofs.Ytnefnnoleeeedaa
open Go.RowKit

/-- The kind of the token with which bytes begin, how many bytes it has, what is wrong. -/
def firstL (l : List UInt8) : Nat × Nat × Nat :=
  if l = [] then (0, 0, 0) else if letN (l.getD 0 0).toNat = true then wordL l else if digN (l.getD 0 0).toNat = true then numL l else if (l.getD 0 0).toNat = 34 then quotL l else signL l
end Go.Proofs.Ytnefnnoleeeedaa

/- The document's example of package runes holds. -/
namespace Go.Proofs.Ytnefnnoleeeedaa
open Go.RowKit

theorem step_below {w w1 w2 : World} (h : Below w.heap.size w w1) (h' : Below w1.heap.size w1 w2) : Below w.heap.size w w2 := h.trans (h'.mono h.size)
end Go.Proofs.Ytnefnnoleeeedaa

/- Contracts: the next token. -/
namespace Go.Proofs.Ytnefnnoleeeedaa
open Go.RowKit

/-- Where the token begins that is read from a place on. -/
def atK (s : ByteArray) (k : Nat) : Nat := k + lLen (tl s k)
theorem lLen_le (l : List UInt8) : lLen l ≤ l.length := runM_le _ _ _ _
theorem atK_le (s : ByteArray) (k : Nat) (h : k ≤ s.size) : k ≤ atK s k ∧ atK s k ≤ s.size := by
  have := lLen_le (tl s k)
  rw [tl_len] at this
  unfold atK
  omega
theorem first_le (l : List UInt8) : (firstL l).2.1 ≤ l.length := by
  unfold firstL
  by_cases h : l = []
  · rw [if_pos h]; simp
  have h0 := len_pos h
  rw [if_neg h]
  have hw := wLen_le l
  split
  · unfold wordL
    split
    · exact hw
    · split
      · simp
      · exact hw
  · split
    · unfold numL
      split
      · exact hw
      · simp
    · split
      · unfold quotL
        split
        · show qLong l ≤ _
          unfold qLong
          omega
        · simp
      · unfold signL
        split
        · rename_i hp
          have : [61, 61].length ≤ l.length := (List.isPrefixOf_iff_prefix.1 hp).length_le
          exact this
        · split
          · exact h0
          · simp

end Go.Proofs.Ytnefnnoleeeedaa

/- Contracts: a text's tokens. -/
namespace Go.Proofs.Ytnefnnoleeeedaa
open Go.RowKit

structure Tok where
  kind : Nat
  at_ : Nat
  lead : ByteArray
  text : ByteArray
def cellsT (t : Tok) : List Value := [.int .i64 t.kind, .int .i64 t.at_, .string t.lead, .string t.text]
def cellsL (l : List Tok) : List Value := l.flatMap cellsT
inductive LexR where
  | good (l : List Tok)
  | bad (e a : Int)
def LexR.pre (D : List Tok) : LexR → LexR
  | .good l => .good (D ++ l)
  | .bad e a => .bad e a
/-- The token that is read from a place on. -/
def tokK (s : ByteArray) (k : Nat) : Tok := ⟨(firstL (tl s (atK s k))).1, atK s k, s.extract k (atK s k), s.extract (atK s k) (atK s k + (firstL (tl s (atK s k))).2.1)⟩
def endK (s : ByteArray) (k : Nat) : Nat := atK s k + (firstL (tl s (atK s k))).2.1
def errK (s : ByteArray) (k : Nat) : Nat := (firstL (tl s (atK s k))).2.2
/-- The tokens from a place on, behind n others; at most f. -/
def lexF (s : ByteArray) : Nat → Nat → Nat → LexR
  | 0, _, _ => .bad 99 0
  | f + 1, k, n => if errK s k ≠ 0 then .bad (errK s k) (atK s k) else if n = 4000 then .bad 5 (atK s k) else if (tokK s k).kind = 0 then .good [tokK s k] else (lexF s f (endK s k) (n + 1)).pre [tokK s k]
def lexR (s : ByteArray) : LexR := if s.size > 16384 then .bad 5 16384 else if badAt s.data.toList ≠ none then .bad 20 (badI s.data.toList) else lexF s (s.size + 1) 0 0
theorem pre_pre (D E : List Tok) (r : LexR) : (r.pre E).pre D = r.pre (D ++ E) := by cases r <;> simp [LexR.pre]

theorem info47 : (Try.prog.info? 53).map (fun i => (i.zero, i.size, i.bytes)) = some (some (.agg #[.int .i64 0, .int .i64 0, .string ⟨#[]⟩, .string ⟨#[]⟩]), 4, 48) := by kernel_rfl
/-- What Lex answers. -/
def Lexed (s : ByteArray) (w : World) (e : Ending) (w' : World) : Prop :=
  Below w.heap.size w w' ∧ match lexR s with
    | .good l => ∃ v, e = .returned (.tuple #[v, .int .i64 0, .int .i64 0]) ∧ w'.ownsRow w.heap.size 53 4 v l.length (cellsL l) ∧ l.length ≤ 4000
    | .bad er a => e = .returned (.tuple #[.slice none 0 0, .int .i64 er, .int .i64 a])

theorem own_below {w w' : World} {base e size n : Nat} {v : Value} {xs : List Value} (h : w.ownsRow base e size v n xs) (hb : Below w.heap.size w w') : w'.ownsRow base e size v n xs := by
  have hlt := h.lt
  refine ⟨h.1, ?_⟩
  rcases h.2 with ⟨hv, hn⟩ | ⟨g, cap, cur, rfl, h1, h2, h3⟩
  · exact .inl ⟨hv, hn⟩
  · exact .inr ⟨g, cap, cur, rfl, h1, (hb.block g (hlt g rfl).2).trans h2, h3⟩
theorem own_slice {w : World} {base e size n : Nat} {v : Value} {xs : List Value} (h : w.ownsRow base e size v n xs) : ∃ A cap, v = .slice A n cap := by
  rcases h.2 with ⟨hv, hx⟩ | ⟨g, cap, cur, hv, _⟩
  · subst hx; exact ⟨none, 0, hv⟩
  · exact ⟨_, cap, hv⟩
theorem cells_tok (w : World) (a b c d : Value) (j : Nat) (u : Value) (hj : [a, b, c, d][j]? = some u) : (w.alloc (.cells #[a, b, c, d] 53)).cell? ((⟨w.heap.size, 0, none⟩ : Addr).add j) = some u := by
  match j, hj with
  | 0, hj => simp at hj; subst hj; simp [Addr.add]
  | 1, hj => simp at hj; subst hj; simp [Addr.add]
  | 2, hj => simp at hj; subst hj; simp [Addr.add]
  | 3, hj => simp at hj; subst hj; simp [Addr.add]
  | (j + 4), hj => simp at hj
theorem one_tok (a b : Int) (c d : ByteArray) : ∀ u ∈ [Value.int .i64 a, .int .i64 b, .string c, .string d], u.oneCell' = true := by
  intro u hu
  simp at hu
  rcases hu with rfl | rfl | rfl | rfl <;> rfl
theorem cellsL_snoc (D : List Tok) (t : Tok) : cellsL (D ++ [t]) = cellsL D ++ cellsT t := by simp [cellsL]
/-- A step of lexing. -/
theorem lexF_err {s : ByteArray} {f k n : Nat} (h : errK s k ≠ 0) : lexF s (f + 1) k n = .bad (errK s k) (atK s k) := by rw [lexF, if_pos h]
theorem lexF_many {s : ByteArray} {f k : Nat} (h : errK s k = 0) : lexF s (f + 1) k 4000 = .bad 5 (atK s k) := by rw [lexF, if_neg (by simp [h]), if_pos rfl]
theorem lexF_end {s : ByteArray} {f k n : Nat} (h : errK s k = 0) (hn : n ≠ 4000) (hk : (tokK s k).kind = 0) : lexF s (f + 1) k n = .good [tokK s k] := by rw [lexF, if_neg (by simp [h]), if_neg hn, if_pos hk]
theorem lexF_next {s : ByteArray} {f k n : Nat} (h : errK s k = 0) (hn : n ≠ 4000) (hk : (tokK s k).kind ≠ 0) : lexF s (f + 1) k n = (lexF s f (endK s k) (n + 1)).pre [tokK s k] := by rw [lexF, if_neg (by simp [h]), if_neg hn, if_neg hk]

theorem wLen_pos {b : UInt8} {t : List UInt8} (h : wdN b.toNat = true) : 1 ≤ wLen (b :: t) := by
  unfold wLen
  rw [runM_go (go := wGo) (by exact h)]
  omega
/-- A token that is none stands at the end alone, and has no bytes. -/
theorem first_kind (l : List UInt8) (h : (firstL l).2.2 = 0) : ((firstL l).1 = 0 ↔ l = []) ∧ ((firstL l).2.1 = 0 ↔ l = []) := by
  cases l with
  | nil => simp [firstL]
  | cons b t =>
    unfold firstL at h ⊢
    rw [if_neg (by simp)] at h ⊢
    have e : (b :: t).getD 0 0 = b := rfl
    rw [e] at h ⊢
    have hne : ¬ (b :: t : List UInt8) = [] := by simp
    simp only [hne, iff_false]
    by_cases h1 : letN b.toNat = true
    · rw [if_pos h1] at h ⊢
      have hp : 1 ≤ wLen (b :: t) := wLen_pos (by unfold wdN; rw [h1]; rfl)
      unfold wordL at h ⊢
      split
      · exact ⟨by simp, by simp only; omega⟩
      · rename_i hk
        rw [if_neg hk] at h
        split
        · rename_i h40
          rw [if_pos h40] at h
          cases h
        · exact ⟨by simp, by simp only; omega⟩
    rw [if_neg h1] at h ⊢
    by_cases h2 : digN b.toNat = true
    · rw [if_pos h2] at h ⊢
      have hp : 1 ≤ wLen (b :: t) := wLen_pos (by unfold wdN; rw [h2]; simp)
      unfold numL at h ⊢
      split
      · exact ⟨by simp, by simp only; omega⟩
      · rename_i hk
        rw [if_neg hk] at h
        cases h
    rw [if_neg h2] at h ⊢
    by_cases h3 : b.toNat = 34
    · rw [if_pos h3] at h ⊢
      unfold quotL at h ⊢
      split
      · refine ⟨by simp, ?_⟩
        simp only [qLong, List.length_cons]
        omega
      · rename_i hk
        rw [if_neg hk] at h
        cases h
    rw [if_neg h3] at h ⊢
    unfold signL at h ⊢
    split
    · exact ⟨by simp, by simp⟩
    · rename_i hp
      rw [if_neg hp] at h
      split
      · exact ⟨by simp, by simp⟩
      · rename_i hk
        rw [if_neg hk] at h
        cases h
theorem endK_le (s : ByteArray) (k : Nat) (h : k ≤ s.size) : atK s k ≤ endK s k ∧ endK s k ≤ s.size := by
  have h1 := first_le (tl s (atK s k))
  have h2 := (atK_le s k h).2
  rw [tl_len] at h1
  unfold endK
  omega
theorem tok_size (s : ByteArray) (k : Nat) (h : k ≤ s.size) : (tokK s k).at_ + (tokK s k).text.size = endK s k := by
  have h1 := endK_le s k h
  show atK s k + (s.extract (atK s k) (endK s k)).size = endK s k
  rw [ByteArray.size_extract]
  omega
theorem tok_pos (s : ByteArray) (k : Nat) (he : errK s k = 0) (hk : (tokK s k).kind ≠ 0) : atK s k < endK s k := by
  obtain ⟨h1, h2⟩ := first_kind (tl s (atK s k)) he
  have h3 : ¬ (firstL (tl s (atK s k))).2.1 = 0 := fun h => hk (h1.2 (h2.1 h))
  unfold endK
  omega
end Go.Proofs.Ytnefnnoleeeedaa

/- Contracts: a text's tokens, whatever the text; the document's example of package token holds. -/
namespace Go.Proofs.Ytnefnnoleeeedaa
open Go.RowKit

/-- The address A holds these tokens; no address is asked for where there is none. -/
def TokAt (w : World) (A : Option Addr) (l : List Tok) : Prop := 0 < l.length → ∃ g, A = some ⟨g, 0, none⟩ ∧ g < w.heap.size ∧ ∀ i (h : i < l.length),
  w.cell? ⟨g, i * 4, none⟩ = some (.int .i64 l[i].kind) ∧ w.cell? ⟨g, i * 4 + 1, none⟩ = some (.int .i64 l[i].at_) ∧ w.cell? ⟨g, i * 4 + 2, none⟩ = some (.string l[i].lead) ∧ w.cell? ⟨g, i * 4 + 3, none⟩ = some (.string l[i].text)
theorem TokAt.below {w w' : World} {A : Option Addr} {l : List Tok} (h : TokAt w A l) (hb : Below w.heap.size w w') : TokAt w' A l := fun hn => by
  obtain ⟨g, e, hg, hc⟩ := h hn
  refine ⟨g, e, Nat.lt_of_lt_of_le hg hb.size, fun i hi => ?_⟩
  obtain ⟨c0, c1, c2, c3⟩ := hc i hi
  exact ⟨(hb.cell (p := ⟨g, i * 4, none⟩) hg).trans c0, (hb.cell (p := ⟨g, i * 4 + 1, none⟩) hg).trans c1, (hb.cell (p := ⟨g, i * 4 + 2, none⟩) hg).trans c2, (hb.cell (p := ⟨g, i * 4 + 3, none⟩) hg).trans c3⟩
theorem cellsL_get : ∀ (l : List Tok) (i : Nat) (h : i < l.length) (c : Nat), c < 4 → (cellsL l)[i * 4 + c]? = (cellsT l[i])[c]?
  | t :: l, 0, h, c, hc => by
    have : (cellsT t).length = 4 := rfl
    simp only [cellsL, List.flatMap_cons, Nat.zero_mul, Nat.zero_add, List.getElem_cons_zero]
    rw [List.getElem?_append_left (by omega)]
  | t :: l, i + 1, h, c, hc => by
    have h4 : (cellsT t).length = 4 := rfl
    have ih := cellsL_get l i (by simp at h; omega) c hc
    simp only [cellsL, List.flatMap_cons, List.getElem_cons_succ]
    rw [List.getElem?_append_right (by omega), h4, show (i + 1) * 4 + c - 4 = i * 4 + c by omega]
    exact ih
theorem TokAt.of_own {w : World} {base n cap : Nat} {A : Option Addr} {l : List Tok} (h : w.ownsRow base 53 4 (.slice A n cap) n (cellsL l)) (hn : n = l.length) : TokAt w A l ∧ (0 < l.length → l.length ≤ cap) := by
  subst hn
  constructor
  · intro h0
    have hlt := h.lt
    rcases h.2 with ⟨hv, hx⟩ | ⟨g, cap', cur, hv, h1, h2, h3⟩
    · omega
    · injection hv with e1 _ _
      subst e1
      have key : ∀ j u, (cellsL l)[j]? = some u → w.cell? ⟨g, j, none⟩ = some u := fun j u hu => by
        have := h.cells (g := g) rfl j u hu
        simp only [Addr.add] at this
        by_cases hj : j = 0 <;> simpa [hj] using this
      refine ⟨g, rfl, (hlt g rfl).2, fun i hi => ⟨?_, ?_, ?_, ?_⟩⟩
      · exact key _ _ (by rw [show i * 4 = i * 4 + 0 by omega, cellsL_get l i hi 0 (by omega)]; rfl)
      · exact key _ _ (by rw [cellsL_get l i hi 1 (by omega)]; rfl)
      · exact key _ _ (by rw [cellsL_get l i hi 2 (by omega)]; rfl)
      · exact key _ _ (by rw [cellsL_get l i hi 3 (by omega)]; rfl)
  · intro h0
    rcases h.2 with ⟨hv, hx⟩ | ⟨g, cap', cur, hv, h1, h2, h3, _⟩
    · omega
    · injection hv with _ _ e3
      subst e3
      exact h3

/-- What Lex answers, whatever the text. -/
def Lext (s : ByteArray) (w : World) (e : Ending) (w' : World) : Prop :=
  Below w.heap.size w w' ∧ match lexR s with
    | .good l => ∃ A cap, e = .returned (.tuple #[.slice A l.length cap, .int .i64 0, .int .i64 0]) ∧ TokAt w' A l ∧ l.length ≤ 4000 ∧ (0 < l.length → l.length ≤ cap)
    | .bad er a => e = .returned (.tuple #[.slice none 0 0, .int .i64 er, .int .i64 a])

theorem lext_of {s : ByteArray} {w w' : World} {e : Ending} (h : Lexed s w e w') : Lext s w e w' := by
  refine ⟨h.1, ?_⟩
  have h2 := h.2
  cases hr : lexR s with
  | good l =>
    rw [hr] at h2
    obtain ⟨v, he, hown, hl⟩ := h2
    obtain ⟨A, cap, rfl⟩ := own_slice hown
    obtain ⟨g1, g2⟩ := TokAt.of_own hown rfl
    exact ⟨A, cap, he, g1, hl, g2⟩
  | bad er a =>
    rw [hr] at h2
    exact h2

end Go.Proofs.Ytnefnnoleeeedaa

/- Mathematics: the document's answer for package parse, function by function. -/
namespace Go.Proofs.Ytnefnnoleeeedaa
namespace Ps

/-- A node's own fields. -/
structure Hd where
  kind : Nat
  fro : Nat
  til : Nat
  word : ByteArray
  at_ : Nat
/-- Nodes beside one another, each with those below it. -/
inductive Fo where
  | nil
  | cons (h : Hd) (kids rest : Fo)
def Fo.len : Fo → Nat
  | .nil => 0
  | .cons _ _ r => r.len + 1
def Fo.app : Fo → Fo → Fo
  | .nil, g => g
  | .cons h k r, g => .cons h k (r.app g)
theorem Fo.app_nil : ∀ a : Fo, a.app .nil = a
  | .nil => rfl
  | .cons h k r => by rw [Fo.app, Fo.app_nil r]
theorem Fo.app_assoc : ∀ a b c : Fo, (a.app b).app c = a.app (b.app c)
  | .nil, _, _ => rfl
  | .cons h k r, b, c => by rw [Fo.app, Fo.app, Fo.app, Fo.app_assoc r]
theorem Fo.len_app : ∀ a b : Fo, (a.app b).len = a.len + b.len
  | .nil, b => by simp [Fo.app, Fo.len]
  | .cons h k r, b => by rw [Fo.app, Fo.len, Fo.len, Fo.len_app r]; omega
/-- A node alone. -/
def Fo.one (h : Hd) (k : Fo) : Fo := .cons h k .nil
def e0 : ByteArray := ⟨#[]⟩
def Fo.zero : Fo := .one ⟨0, 0, 0, e0, 0⟩ .nil
def Fo.from_ : Fo → Nat
  | .nil => 0
  | .cons h _ _ => h.fro

section
variable (l : List Tok)
/-- Does a key or a sign stand there? -/
def isM (at_ : Nat) (x : List UInt8) : Bool :=
  match l[at_]? with
  | none => false
  | some t => (t.kind == 2 || t.kind == 5) && (t.text.data.toList == x)
def kindAt (at_ : Nat) : Nat := ((l[at_]?).map Tok.kind).getD 0
def textAt (at_ : Nat) : ByteArray := ((l[at_]?).map Tok.text).getD e0
def wantM (b : Int) (at_ : Nat) (x : List UInt8) : Nat × Int := if 0 ≤ b then (at_, b) else if isM l at_ x = true then (at_ + 1, b) else (at_, (at_ : Int))
def wordM (b : Int) (h : Hd) (at_ : Nat) : Hd × Nat × Int := if 0 ≤ b then (h, at_, b) else if kindAt l at_ = 1 then ({ h with word := textAt l at_, at_ := at_ }, at_ + 1, b) else (h, at_, (at_ : Int))

abbrev Res := Option (Fo × Nat × Int)
/-- Behind what has been read. -/
def Res.pre (k : Fo) (r : Res) : Res := r.map fun x => (k.app x.1, x.2)

inductive TT where
  | kind
  | recL (first : Bool)
  | fnL (first : Bool)
def kInt : List UInt8 := [105, 110, 116]
def kStr : List UInt8 := [115, 116, 114]
def kDyn : List UInt8 := [100, 121, 110]
def kFn : List UInt8 := [102, 110]
def kUse : List UInt8 := [117, 115, 101]
def kDef : List UInt8 := [100, 101, 102]
def kIf : List UInt8 := [105, 102]
def kElse : List UInt8 := [101, 108, 115, 101]
def kWhile : List UInt8 := [119, 104, 105, 108, 101]
def kLet : List UInt8 := [108, 101, 116]
def kPrint : List UInt8 := [112, 114, 105, 110, 116]
def kReturn : List UInt8 := [114, 101, 116, 117, 114, 110]
def kInput : List UInt8 := [105, 110, 112, 117, 116]
def sOpen : List UInt8 := [123]
def sShut : List UInt8 := [125]
def sParO : List UInt8 := [40]
def sParS : List UInt8 := [41]
def sCol : List UInt8 := [58]
def sCom : List UInt8 := [44]
def sSem : List UInt8 := [59]
def sDot : List UInt8 := [46]
def sEq : List UInt8 := [61]
def sEqEq : List UInt8 := [61, 61]
def sLess : List UInt8 := [60]
def sPlus : List UInt8 := [43]
def sMinus : List UInt8 := [45]
def sStar : List UInt8 := [42]

/-- Types; at most f steps deep. -/
def tyM : Nat → TT → Int → Nat → Res
  | 0, _, _, _ => none
  | f + 1, .kind, b, at_ =>
    if 0 ≤ b then some (.zero, at_, b)
    else if isM l at_ kInt = true then some (.one ⟨29, at_, at_ + 1, e0, 0⟩ .nil, at_ + 1, b)
    else if isM l at_ kStr = true then some (.one ⟨30, at_, at_ + 1, e0, 0⟩ .nil, at_ + 1, b)
    else if isM l at_ kDyn = true then some (.one ⟨31, at_, at_ + 1, e0, 0⟩ .nil, at_ + 1, b)
    else if isM l at_ sOpen = true then
      (tyM f (.recL true) b (at_ + 1)).bind fun x =>
        let y := wantM l x.2.2 x.2.1 sShut
        some (.one ⟨32, at_, y.1, e0, 0⟩ x.1, y.1, y.2)
    else
      let y1 := wantM l b at_ kFn
      let y2 := wantM l y1.2 y1.1 sParO
      (tyM f (.fnL true) y2.2 y2.1).bind fun x =>
        let y3 := wantM l x.2.2 x.2.1 sParS
        let y4 := wantM l y3.2 y3.1 sCol
        (tyM f .kind y4.2 y4.1).bind fun t =>
          some (.one ⟨34, at_, t.2.1, e0, 0⟩ (x.1.app t.1), t.2.1, t.2.2)
  | f + 1, .recL first, b, at_ =>
    if b < 0 ∧ ¬ (first = true ∧ isM l at_ sShut = true) then
      let x := wordM l b ⟨33, at_, 0, e0, 0⟩ at_
      let y := wantM l x.2.2 x.2.1 sCol
      (tyM f .kind y.2 y.1).bind fun t =>
        let n : Fo := .one { x.1 with til := t.2.1 } t.1
        if 0 ≤ t.2.2 ∨ isM l t.2.1 sShut = true then some (n, t.2.1, t.2.2)
        else
          let y2 := wantM l t.2.2 t.2.1 sCom
          (tyM f (.recL false) y2.2 y2.1).pre n
    else some (.nil, at_, b)
  | f + 1, .fnL first, b, at_ =>
    if b < 0 ∧ ¬ (first = true ∧ isM l at_ sParS = true) then
      (tyM f .kind b at_).bind fun t =>
        if 0 ≤ t.2.2 ∨ isM l t.2.1 sParS = true then some (t.1, t.2.1, t.2.2)
        else
          let y2 := wantM l t.2.2 t.2.1 sCom
          (tyM f (.fnL false) y2.2 y2.1).pre t.1
    else some (.nil, at_, b)

def typedM (f : Nat) (b : Int) (at_ : Nat) : Res := if 0 ≤ b ∨ ¬ isM l at_ sCol = true then some (.zero, at_, b) else tyM l f .kind b (at_ + 1)
def parL : Nat → Bool → Int → Nat → Res
  | 0, _, _, _ => none
  | f + 1, first, b, at_ =>
    if b < 0 ∧ ¬ (first = true ∧ isM l at_ sParS = true) then
      let x := wordM l b ⟨5, at_, 0, e0, 0⟩ at_
      (typedM l f x.2.2 x.2.1).bind fun t =>
        let n : Fo := .one { x.1 with til := t.2.1 } t.1
        if 0 ≤ t.2.2 ∨ isM l t.2.1 sParS = true then some (n, t.2.1, t.2.2)
        else
          let y2 := wantM l t.2.2 t.2.1 sCom
          (parL f false y2.2 y2.1).pre n
    else some (.nil, at_, b)
def paramsM (f : Nat) (b : Int) (at_ : Nat) : Res :=
  let y := wantM l b at_ sParO
  (parL l f true y.2 y.1).bind fun x =>
    let y2 := wantM l x.2.2 x.2.1 sParS
    some (.one ⟨4, at_, y2.1, e0, 0⟩ x.1, y2.1, y2.2)

inductive XT where
  | lambda
  | block
  | stmts
  | stmt
  | expr
  | sum
  | sumL (a : Fo)
  | term
  | termL (a : Fo)
  | post
  | postL (a : Fo)
  | args (first : Bool)
  | atom
  | entries (first : Bool)
/-- All that may hold expressions; at most f steps deep. -/
def exM : Nat → XT → Int → Nat → Res
  | 0, _, _, _ => none
  | f + 1, .lambda, b, at_ =>
    (paramsM l f b at_).bind fun p =>
      (typedM l f p.2.2 p.2.1).bind fun t =>
        (exM f .block t.2.2 t.2.1).bind fun k =>
          some (p.1.app (t.1.app k.1), k.2.1, k.2.2)
  | f + 1, .block, b, at_ =>
    let y := wantM l b at_ sOpen
    (exM f .stmts y.2 y.1).bind fun x =>
      let y2 := wantM l x.2.2 x.2.1 sShut
      some (.one ⟨6, at_, y2.1, e0, 0⟩ x.1, y2.1, y2.2)
  | f + 1, .stmts, b, at_ =>
    if b < 0 ∧ ¬ isM l at_ sShut = true then
      (exM f .stmt b at_).bind fun x => (exM f .stmts x.2.2 x.2.1).pre x.1
    else some (.nil, at_, b)
  | f + 1, .stmt, b, at_ =>
    if isM l at_ kIf = true then
      (exM f .expr b (at_ + 1)).bind fun c =>
        (exM f .block c.2.2 c.2.1).bind fun k =>
          if k.2.2 < 0 ∧ isM l k.2.1 kElse = true then
            (exM f .block k.2.2 (k.2.1 + 1)).bind fun o =>
              some (.one ⟨9, at_, o.2.1, e0, 0⟩ (c.1.app (k.1.app o.1)), o.2.1, o.2.2)
          else some (.one ⟨9, at_, k.2.1, e0, 0⟩ (c.1.app (k.1.app .zero)), k.2.1, k.2.2)
    else if isM l at_ kWhile = true then
      (exM f .expr b (at_ + 1)).bind fun c =>
        (exM f .block c.2.2 c.2.1).bind fun k =>
          some (.one ⟨10, at_, k.2.1, e0, 0⟩ (c.1.app k.1), k.2.1, k.2.2)
    else if isM l at_ kLet = true then
      let x := wordM l b ⟨7, at_, 0, e0, 0⟩ (at_ + 1)
      (typedM l f x.2.2 x.2.1).bind fun t =>
        let y := wantM l t.2.2 t.2.1 sEq
        (exM f .expr y.2 y.1).bind fun v =>
          let y2 := wantM l v.2.2 v.2.1 sSem
          some (.one { x.1 with til := y2.1 } (t.1.app v.1), y2.1, y2.2)
    else
      let x : Hd × Nat × Int :=
        if isM l at_ kPrint = true then (⟨11, at_, 0, e0, 0⟩, at_ + 1, b)
        else if isM l at_ kReturn = true then (⟨12, at_, 0, e0, 0⟩, at_ + 1, b)
        else if kindAt l at_ = 1 ∧ isM l (at_ + 1) sEq = true then (let z := wordM l b ⟨8, at_, 0, e0, 0⟩ at_; (z.1, z.2.1 + 1, z.2.2))
        else (⟨13, at_, 0, e0, 0⟩, at_, b)
      (exM f .expr x.2.2 x.2.1).bind fun v =>
        let y2 := wantM l v.2.2 v.2.1 sSem
        some (.one { x.1 with til := y2.1 } v.1, y2.1, y2.2)
  | f + 1, .expr, b, at_ =>
    (exM f .sum b at_).bind fun a =>
      if 0 ≤ a.2.2 ∨ (¬ isM l a.2.1 sLess = true ∧ ¬ isM l a.2.1 sEqEq = true) then some a
      else (exM f .sum a.2.2 (a.2.1 + 1)).bind fun c =>
        some (.one ⟨if isM l a.2.1 sEqEq = true then 15 else 14, a.1.from_, c.2.1, e0, 0⟩ (a.1.app c.1), c.2.1, c.2.2)
  | f + 1, .sum, b, at_ => (exM f .term b at_).bind fun a => exM f (.sumL a.1) a.2.2 a.2.1
  | f + 1, .sumL a, b, at_ =>
    if b < 0 ∧ (isM l at_ sPlus = true ∨ isM l at_ sMinus = true) then
      (exM f .term b (at_ + 1)).bind fun c =>
        exM f (.sumL (.one ⟨if isM l at_ sMinus = true then 17 else 16, a.from_, c.2.1, e0, 0⟩ (a.app c.1))) c.2.2 c.2.1
    else some (a, at_, b)
  | f + 1, .term, b, at_ => (exM f .post b at_).bind fun a => exM f (.termL a.1) a.2.2 a.2.1
  | f + 1, .termL a, b, at_ =>
    if b < 0 ∧ isM l at_ sStar = true then
      (exM f .post b (at_ + 1)).bind fun c =>
        exM f (.termL (.one ⟨18, a.from_, c.2.1, e0, 0⟩ (a.app c.1))) c.2.2 c.2.1
    else some (a, at_, b)
  | f + 1, .post, b, at_ => (exM f .atom b at_).bind fun a => exM f (.postL a.1) a.2.2 a.2.1
  | f + 1, .postL a, b, at_ =>
    if b < 0 ∧ (isM l at_ sDot = true ∨ isM l at_ sParO = true) then
      if isM l at_ sDot = true then
        let x := wordM l b ⟨19, a.from_, 0, e0, 0⟩ (at_ + 1)
        exM f (.postL (.one { x.1 with til := x.2.1 } a)) x.2.2 x.2.1
      else
        (exM f (.args true) b (at_ + 1)).bind fun k =>
          let y := wantM l k.2.2 k.2.1 sParS
          exM f (.postL (.one ⟨20, a.from_, y.1, e0, 0⟩ (a.app k.1))) y.2 y.1
    else some (a, at_, b)
  | f + 1, .args first, b, at_ =>
    if b < 0 ∧ ¬ (first = true ∧ isM l at_ sParS = true) then
      (exM f .expr b at_).bind fun t =>
        if 0 ≤ t.2.2 ∨ isM l t.2.1 sParS = true then some (t.1, t.2.1, t.2.2)
        else
          let y2 := wantM l t.2.2 t.2.1 sCom
          (exM f (.args false) y2.2 y2.1).pre t.1
    else some (.nil, at_, b)
  | f + 1, .atom, b, at_ =>
    if 0 ≤ b then some (.zero, at_, b)
    else if kindAt l at_ = 3 then some (.one ⟨21, at_, at_ + 1, textAt l at_, at_⟩ .nil, at_ + 1, b)
    else if kindAt l at_ = 4 then some (.one ⟨22, at_, at_ + 1, textAt l at_, at_⟩ .nil, at_ + 1, b)
    else if kindAt l at_ = 1 then some (.one ⟨23, at_, at_ + 1, textAt l at_, at_⟩ .nil, at_ + 1, b)
    else if isM l at_ kInput = true then some (.one ⟨24, at_, at_ + 1, e0, 0⟩ .nil, at_ + 1, b)
    else if isM l at_ sParO = true then
      (exM f .expr b (at_ + 1)).bind fun x =>
        let y := wantM l x.2.2 x.2.1 sParS
        some (.one ⟨25, at_, y.1, e0, 0⟩ x.1, y.1, y.2)
    else if isM l at_ sOpen = true then
      (exM f (.entries true) b (at_ + 1)).bind fun x =>
        let y := wantM l x.2.2 x.2.1 sShut
        some (.one ⟨26, at_, y.1, e0, 0⟩ x.1, y.1, y.2)
    else
      let y := wantM l b at_ kFn
      (exM f .lambda y.2 y.1).bind fun k =>
        some (.one ⟨28, at_, k.2.1, e0, 0⟩ k.1, k.2.1, k.2.2)
  | f + 1, .entries first, b, at_ =>
    if b < 0 ∧ ¬ (first = true ∧ isM l at_ sShut = true) then
      let x := wordM l b ⟨27, at_, 0, e0, 0⟩ at_
      let y := wantM l x.2.2 x.2.1 sCol
      (exM f .expr y.2 y.1).bind fun t =>
        let n : Fo := .one { x.1 with til := t.2.1 } t.1
        if 0 ≤ t.2.2 ∨ isM l t.2.1 sShut = true then some (n, t.2.1, t.2.2)
        else
          let y2 := wantM l t.2.2 t.2.1 sCom
          (exM f (.entries false) y2.2 y2.1).pre n
    else some (.nil, at_, b)

def useM (b : Int) (at_ : Nat) : Fo × Nat × Int :=
  let x := wordM l b ⟨23, at_ + 1, 0, e0, 0⟩ (at_ + 1)
  let y := wantM l x.2.2 x.2.1 sDot
  let z := wordM l y.2 ⟨2, at_, 0, e0, 0⟩ y.1
  let y2 := wantM l z.2.2 z.2.1 sSem
  (.one { z.1 with til := y2.1 } (.one { x.1 with til := x.2.1 } .nil), y2.1, y2.2)
def defM (f : Nat) (b : Int) (at_ : Nat) : Res :=
  let y := wantM l b at_ kDef
  let x := wordM l y.2 ⟨3, at_, 0, e0, 0⟩ y.1
  (exM l f .lambda x.2.2 x.2.1).bind fun k =>
    some (.one { x.1 with til := k.2.1 } k.1, k.2.1, k.2.2)
def itemsM : Nat → Int → Nat → Res
  | 0, _, _ => none
  | f + 1, b, at_ =>
    if b < 0 ∧ kindAt l at_ ≠ 0 then
      if isM l at_ kUse = true then (itemsM f (useM l b at_).2.2 (useM l b at_).2.1).pre (useM l b at_).1
      else (defM l f b at_).bind fun x => (itemsM f x.2.2 x.2.1).pre x.1
    else some (.nil, at_, b)
end
end Ps
end Go.Proofs.Ytnefnnoleeeedaa

