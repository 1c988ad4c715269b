import Derived.Test.YtiabkkdeonepgaaGreatDoorXA
import Derived.Deep.LoopGhost
import Derived.Test.YtiabkkdeonepgaaGreatDoorShA
set_option maxRecDepth 100000
namespace Go.Proofs.YtiabkkdeonepgaaGreatDoor
open Go.RowKit
set_option maxHeartbeats 400000 in
theorem more_any (b : Int) (w : World) : Calls Tryz.prog 57 #[.int .u8 b] w fun e w' => e = .returned (.bool (decide (128 ≤ b) && decide (b < 192))) ∧ w = w' := by
  go_enter Tryz.func57, Tryz.ntmps57
  go_wp2
  all_goals
    go_ret
    exact ⟨rb (by simp <;> omega), rfl⟩
set_option maxHeartbeats 1000000 in
theorem rnext_ascii (s : ByteArray) (k : Nat) (w : World) (_hs : s.size ≤ 100000) (hk : k < s.size) (hb : gb s k < 128) :
    Calls Tryz.prog 32 #[.string s, .int .i64 k] w fun e w' => e = trip (tl s k) ∧ w = w' := by
  have hg := gb_of s k hk
  have h0 := gb_lt s k
  have h3 : ((s[k]'hk).toNat : Int) < 256 := by omega
  have hb' : ((s[k]'hk).toNat : Int) < 128 := by omega
  have HG := Lib.hid hg
  clear hg
  go_enter Tryz.func32, Tryz.ntmps32
  go_wp2
  go_ret3
  exact ⟨trip_good (x := gb s k) (n := 1) (by rw [dec_tl, dN_ascii _ _ _ _ _ hb]) (.inr hb) (by rw [HG.out]) rfl, rfl⟩
set_option maxHeartbeats 1000000 in
theorem rnext_none (s : ByteArray) (k : Nat) (w : World) (_hs : s.size ≤ 100000) (hk : k < s.size) (hb : 128 ≤ gb s k) (hb' : gb s k < 192 ∨ 248 ≤ gb s k) :
    Calls Tryz.prog 32 #[.string s, .int .i64 k] w fun e w' => e = trip (tl s k) ∧ w = w' := by
  have hg := gb_of s k hk
  have h0 := gb_lt s k
  have h3 : ((s[k]'hk).toNat : Int) < 256 := by omega
  have hd : dec (tl s k) = (65533, 1) := by rw [dec_tl, dN_none _ _ _ _ _ hb hb' (gb_lt s k)]
  have HD := Lib.hid hd
  rcases hb' with hb' | hb'
  · have h1 : 128 ≤ ((s[k]'hk).toNat : Int) := by omega
    have h2 : ((s[k]'hk).toNat : Int) < 192 := by omega
    clear hg hd
    go_enter Tryz.func32, Tryz.ntmps32
    go_wp2
    go_ret3
    exact ⟨trip_bad HD.out, rfl⟩
  · have h1 : 248 ≤ ((s[k]'hk).toNat : Int) := by omega
    clear hg hd
    go_enter Tryz.func32, Tryz.ntmps32
    go_wp2
    go_ret3
    exact ⟨trip_bad HD.out, rfl⟩
theorem more_yes (b : Int) (w : World) (h0 : 128 ≤ b) (h1 : b < 192) : Calls Tryz.prog 57 #[.int .u8 b] w fun e w' => e = .returned (.bool true) ∧ w = w' :=
  (more_any b w).mono fun e w' ⟨he, hw⟩ => ⟨by rw [he, decide_eq_true h0, decide_eq_true h1]; rfl, hw⟩
theorem more_no (b : Int) (w : World) (h : b < 128 ∨ 192 ≤ b) : Calls Tryz.prog 57 #[.int .u8 b] w fun e w' => e = .returned (.bool false) ∧ w = w' :=
  (more_any b w).mono fun e w' ⟨he, hw⟩ => ⟨by
    rw [he]
    rcases h with h | h
    · rw [decide_eq_false (by omega)]; rfl
    · rw [decide_eq_false (p := b < 192) (by omega), Bool.and_false], hw⟩
def acc (s : ByteArray) (k : Nat) (f0 : Int) : Nat → Int
  | 0 => f0
  | j + 1 => acc s k f0 j * 64 + gb s (k + (j + 1)) - 128
def St (s : ByteArray) (k : Nat) (f0 : Int) (j : Nat) (v : Int) : Prop := v = acc s k f0 (j - 1) ∧ ∀ t, 1 ≤ t → t < j → 128 ≤ gb s (k + t) ∧ gb s (k + t) < 192
theorem St.first (s : ByteArray) (k : Nat) (f0 : Int) : St s k f0 1 f0 := ⟨rfl, fun t h1 h2 => by omega⟩
theorem St.next {s : ByteArray} {k j : Nat} {f0 v : Int} (h : St s k f0 j v) (hj : 1 ≤ j) (h1 : 128 ≤ gb s (k + j)) (h2 : gb s (k + j) < 192) {x : Int} (hx : x = v * 64 + gb s (k + j) - 128) : St s k f0 (j + 1) x := by
  obtain ⟨j, rfl⟩ : ∃ i, j = i + 1 := ⟨j - 1, by omega⟩
  refine ⟨by rw [hx, h.1]; rfl, fun t a b => ?_⟩
  by_cases e : t = j + 1
  · subst e; exact ⟨h1, h2⟩
  · exact h.2 t a (by omega)
theorem St.bound {s : ByteArray} {k j : Nat} {f0 v : Int} (h : St s k f0 j v) (h0 : 0 ≤ f0) (h1 : f0 < 32) (hj : 1 ≤ j) (hj' : j ≤ 4) : 0 ≤ v ∧ v < 8388608 := by
  obtain ⟨rfl, hc⟩ := h
  rcases (by omega : j = 1 ∨ j = 2 ∨ j = 3 ∨ j = 4) with rfl | rfl | rfl | rfl
  · simp [acc]; omega
  · have c1 := hc 1 (by omega) (by omega)
    simp [acc]; omega
  · have c1 := hc 1 (by omega) (by omega)
    have c2 := hc 2 (by omega) (by omega)
    simp [acc]; omega
  · have c1 := hc 1 (by omega) (by omega)
    have c2 := hc 2 (by omega) (by omega)
    have c3 := hc 3 (by omega) (by omega)
    simp [acc]; omega
theorem two_bad {s : ByteArray} {k j : Nat} (hb : 192 ≤ gb s k) (hb' : gb s k < 224) (h1 : 1 ≤ j) (h2 : j < 2) (h : gb s (k + j) < 128 ∨ 192 ≤ gb s (k + j)) : dec (tl s k) = (65533, 1) := by
  rw [dec_tl]
  have q : gb s (k + 1) < 128 ∨ 192 ≤ gb s (k + 1) := by
    rcases (by omega : j = 1) with rfl <;> omega
  exact dN_two_bad _ _ _ _ _ hb hb' (.inr q) (gb_lt s _)
theorem two_end {s : ByteArray} {k : Nat} {v : Int} (hb : 192 ≤ gb s k) (hb' : gb s k < 224) (hn : k + 2 ≤ s.size) (h : St s k ((gb s k : Int) - 192) 2 v) :
    dec (tl s k) = if fits 2 v = true then (v.toNat, 2) else (65533, 1) := by
  rw [dec_tl]
  obtain ⟨rfl, hc⟩ := h
  have c1 := hc 1 (by omega) (by omega)
  exact dN_two _ _ _ _ _ hb hb' (by omega) c1.1 c1.2
set_option maxHeartbeats 2000000 in
theorem rnext_two (s : ByteArray) (k : Nat) (w : World) (hs : s.size ≤ 100000) (hk : k < s.size) (hb : 192 ≤ gb s k) (hb' : gb s k < 224) :
    Calls Tryz.prog 32 #[.string s, .int .i64 k] w fun e w' => e = trip (tl s k) ∧ w = w' := by
  have hg := gb_of s k hk
  have h1 : 192 ≤ ((s[k]'hk).toNat : Int) := by omega
  have h2 : ((s[k]'hk).toNat : Int) < 224 := by omega
  by_cases hn : s.size < k + 2
  · have hd : dec (tl s k) = (65533, 1) := by rw [dec_tl, dN_two_bad _ _ _ _ _ hb hb' (.inl (by omega)) (gb_lt s _)]
    have HD := Lib.hid hd
    have hn' : (s.size : Int) - k < 2 := by omega
    clear hg hd
    go_enter Tryz.func32, Tryz.ntmps32
    go_wp2
    go_ret3
    exact ⟨trip_bad HD.out, rfl⟩
  · have hn' : ¬ ((s.size : Int) - k < 2) := by omega
    have HG := Lib.hid hg
    clear hg
    go_enter Tryz.func32, Tryz.ntmps32
    go_wp2_with fail
    go_loopg [9, 11] 2 (fun kx x i wr => ∃ (j : Nat) (v : Int), x = .int .i64 v ∧ i = .int .i64 j ∧ 1 ≤ j ∧ j ≤ 2 ∧ 2 - j ≤ kx ∧ 0 ≤ v ∧ v < 8388608 ∧ Hid (St s k ((gb s k : Int) - 192) j v) ∧ Hid (w = wr))
    case atStart => exact ⟨1, _, rfl, rfl, by omega, by omega, by omega, by omega, by omega, by rw [HG.out]; exact St.first _ _ _, rfl⟩
    case round =>
      obtain ⟨j, v, rfl, rfl, hj1, hj2, hkx, hv0, hv1, HS, HW⟩ := hrel
      obtain rfl := HW.out
      by_cases hlt : j < 2
      · have hkj : k + j < s.size := by omega
        have hgj := gb_of s (k + j) hkj
        have hlj := gb_lt s (k + j)
        have h4 : ((s[k + j]'hkj).toNat : Int) < 256 := by omega
        by_cases hc : 128 ≤ gb s (k + j) ∧ gb s (k + j) < 192
        · have c1 : 128 ≤ ((s[k + j]'hkj).toNat : Int) := by omega
          have c2 : ((s[k + j]'hkj).toNat : Int) < 192 := by omega
          have HGJ := Lib.hid hgj
          clear hgj hlj
          go_wp2_with (go_at_call 57; refine (more_yes _ _ (by omega) (by omega)).mono ?_; rintro e w' ⟨rfl, rfl⟩)
          have hst : St s k ((gb s k : Int) - 192) (j + 1) (v * 64 + (s[k + j]'hkj).toNat - 128) := HS.out.next hj1 hc.1 hc.2 (by rw [HGJ.out])
          have hbd := hst.bound (by omega) (by omega) (by omega) (by omega)
          go_roundg (2 - (j + 1))
          case measure => omega
          case rel => exact ⟨j + 1, _, rfl, by go_num, by omega, by omega, by omega, hbd.1, hbd.2, hst, rfl⟩
        · have hd := two_bad hb hb' hj1 hlt (by omega)
          have HD := Lib.hid hd
          clear hd
          by_cases c1 : 128 ≤ gb s (k + j)
          · have c2 : 192 ≤ ((s[k + j]'hkj).toNat : Int) := by omega
            clear hgj hlj
            go_wp2_with (go_at_call 57; refine (more_no _ _ (by omega)).mono ?_; rintro e w' ⟨rfl, rfl⟩)
            go_ret3
            exact ⟨trip_bad HD.out, rfl⟩
          · have c2 : ((s[k + j]'hkj).toNat : Int) < 128 := by omega
            clear hgj hlj
            go_wp2_with (go_at_call 57; refine (more_no _ _ (by omega)).mono ?_; rintro e w' ⟨rfl, rfl⟩)
            go_ret3
            exact ⟨trip_bad HD.out, rfl⟩
      · obtain rfl : j = 2 := by omega
        have hd := two_end hb hb' (by omega) HS.out
        by_cases f1 : v < 128
        · have f : fits 2 v = false := by simp [fits]; omega
          rw [f] at hd
          have HD := Lib.hid hd
          clear hd f
          go_wp2
          go_ret3
          exact ⟨trip_bad HD.out, rfl⟩
        by_cases f2 : v > 1114111
        · have f : fits 2 v = false := by simp [fits]; omega
          rw [f] at hd
          have HD := Lib.hid hd
          clear hd f
          go_wp2
          go_ret3
          exact ⟨trip_bad HD.out, rfl⟩
        by_cases f3 : 55296 ≤ v ∧ v < 57344
        · have f : fits 2 v = false := by simp [fits]; omega
          obtain ⟨f3, f4⟩ := f3
          rw [f] at hd
          have HD := Lib.hid hd
          clear hd f
          go_wp2
          go_ret3
          exact ⟨trip_bad HD.out, rfl⟩
        · have f : fits 2 v = true := by simp [fits]; omega
          rw [f] at hd
          have HD := Lib.hid hd
          clear hd f
          by_cases f4 : 55296 ≤ v
          · have f5 : ¬ v < 57344 := by omega
            clear f3
            go_wp2
            go_ret3
            exact ⟨trip_good (x := v.toNat) (n := 2) HD.out (.inl (by omega)) (by omega) rfl, rfl⟩
          · clear f3
            go_wp2
            go_ret3
            exact ⟨trip_good (x := v.toNat) (n := 2) HD.out (.inl (by omega)) (by omega) rfl, rfl⟩
theorem three_bad {s : ByteArray} {k j : Nat} (hb : 224 ≤ gb s k) (hb' : gb s k < 240) (h1 : 1 ≤ j) (h2 : j < 3) (h : gb s (k + j) < 128 ∨ 192 ≤ gb s (k + j)) : dec (tl s k) = (65533, 1) := by
  rw [dec_tl]
  have q : gb s (k + 1) < 128 ∨ 192 ≤ gb s (k + 1) ∨ gb s (k + 2) < 128 ∨ 192 ≤ gb s (k + 2) := by
    rcases (by omega : j = 1 ∨ j = 2) with rfl | rfl <;> omega
  exact dN_three_bad _ _ _ _ _ hb hb' (.inr q) (gb_lt s _) (gb_lt s _)
theorem three_end {s : ByteArray} {k : Nat} {v : Int} (hb : 224 ≤ gb s k) (hb' : gb s k < 240) (hn : k + 3 ≤ s.size) (h : St s k ((gb s k : Int) - 224) 3 v) :
    dec (tl s k) = if fits 3 v = true then (v.toNat, 3) else (65533, 1) := by
  rw [dec_tl]
  obtain ⟨rfl, hc⟩ := h
  have c1 := hc 1 (by omega) (by omega)
  have c2 := hc 2 (by omega) (by omega)
  exact dN_three _ _ _ _ _ hb hb' (by omega) c1.1 c1.2 c2.1 c2.2
set_option maxHeartbeats 2000000 in
theorem rnext_three (s : ByteArray) (k : Nat) (w : World) (hs : s.size ≤ 100000) (hk : k < s.size) (hb : 224 ≤ gb s k) (hb' : gb s k < 240) :
    Calls Tryz.prog 32 #[.string s, .int .i64 k] w fun e w' => e = trip (tl s k) ∧ w = w' := by
  have hg := gb_of s k hk
  have h1 : 224 ≤ ((s[k]'hk).toNat : Int) := by omega
  have h2 : ((s[k]'hk).toNat : Int) < 240 := by omega
  by_cases hn : s.size < k + 3
  · have hd : dec (tl s k) = (65533, 1) := by rw [dec_tl, dN_three_bad _ _ _ _ _ hb hb' (.inl (by omega)) (gb_lt s _) (gb_lt s _)]
    have HD := Lib.hid hd
    have hn' : (s.size : Int) - k < 3 := by omega
    clear hg hd
    go_enter Tryz.func32, Tryz.ntmps32
    go_wp2
    go_ret3
    exact ⟨trip_bad HD.out, rfl⟩
  · have hn' : ¬ ((s.size : Int) - k < 3) := by omega
    have HG := Lib.hid hg
    clear hg
    go_enter Tryz.func32, Tryz.ntmps32
    go_wp2_with fail
    go_loopg [9, 11] 3 (fun kx x i wr => ∃ (j : Nat) (v : Int), x = .int .i64 v ∧ i = .int .i64 j ∧ 1 ≤ j ∧ j ≤ 3 ∧ 3 - j ≤ kx ∧ 0 ≤ v ∧ v < 8388608 ∧ Hid (St s k ((gb s k : Int) - 224) j v) ∧ Hid (w = wr))
    case atStart => exact ⟨1, _, rfl, rfl, by omega, by omega, by omega, by omega, by omega, by rw [HG.out]; exact St.first _ _ _, rfl⟩
    case round =>
      obtain ⟨j, v, rfl, rfl, hj1, hj2, hkx, hv0, hv1, HS, HW⟩ := hrel
      obtain rfl := HW.out
      by_cases hlt : j < 3
      · have hkj : k + j < s.size := by omega
        have hgj := gb_of s (k + j) hkj
        have hlj := gb_lt s (k + j)
        have h4 : ((s[k + j]'hkj).toNat : Int) < 256 := by omega
        by_cases hc : 128 ≤ gb s (k + j) ∧ gb s (k + j) < 192
        · have c1 : 128 ≤ ((s[k + j]'hkj).toNat : Int) := by omega
          have c2 : ((s[k + j]'hkj).toNat : Int) < 192 := by omega
          have HGJ := Lib.hid hgj
          clear hgj hlj
          go_wp2_with (go_at_call 57; refine (more_yes _ _ (by omega) (by omega)).mono ?_; rintro e w' ⟨rfl, rfl⟩)
          have hst : St s k ((gb s k : Int) - 224) (j + 1) (v * 64 + (s[k + j]'hkj).toNat - 128) := HS.out.next hj1 hc.1 hc.2 (by rw [HGJ.out])
          have hbd := hst.bound (by omega) (by omega) (by omega) (by omega)
          go_roundg (3 - (j + 1))
          case measure => omega
          case rel => exact ⟨j + 1, _, rfl, by go_num, by omega, by omega, by omega, hbd.1, hbd.2, hst, rfl⟩
        · have hd := three_bad hb hb' hj1 hlt (by omega)
          have HD := Lib.hid hd
          clear hd
          by_cases c1 : 128 ≤ gb s (k + j)
          · have c2 : 192 ≤ ((s[k + j]'hkj).toNat : Int) := by omega
            clear hgj hlj
            go_wp2_with (go_at_call 57; refine (more_no _ _ (by omega)).mono ?_; rintro e w' ⟨rfl, rfl⟩)
            go_ret3
            exact ⟨trip_bad HD.out, rfl⟩
          · have c2 : ((s[k + j]'hkj).toNat : Int) < 128 := by omega
            clear hgj hlj
            go_wp2_with (go_at_call 57; refine (more_no _ _ (by omega)).mono ?_; rintro e w' ⟨rfl, rfl⟩)
            go_ret3
            exact ⟨trip_bad HD.out, rfl⟩
      · obtain rfl : j = 3 := by omega
        have hd := three_end hb hb' (by omega) HS.out
        by_cases f1 : v < 2048
        · have f : fits 3 v = false := by simp [fits]; omega
          rw [f] at hd
          have HD := Lib.hid hd
          clear hd f
          go_wp2
          go_ret3
          exact ⟨trip_bad HD.out, rfl⟩
        by_cases f2 : v > 1114111
        · have f : fits 3 v = false := by simp [fits]; omega
          rw [f] at hd
          have HD := Lib.hid hd
          clear hd f
          go_wp2
          go_ret3
          exact ⟨trip_bad HD.out, rfl⟩
        by_cases f3 : 55296 ≤ v ∧ v < 57344
        · have f : fits 3 v = false := by simp [fits]; omega
          obtain ⟨f3, f4⟩ := f3
          rw [f] at hd
          have HD := Lib.hid hd
          clear hd f
          go_wp2
          go_ret3
          exact ⟨trip_bad HD.out, rfl⟩
        · have f : fits 3 v = true := by simp [fits]; omega
          rw [f] at hd
          have HD := Lib.hid hd
          clear hd f
          by_cases f4 : 55296 ≤ v
          · have f5 : ¬ v < 57344 := by omega
            clear f3
            go_wp2
            go_ret3
            exact ⟨trip_good (x := v.toNat) (n := 3) HD.out (.inl (by omega)) (by omega) rfl, rfl⟩
          · clear f3
            go_wp2
            go_ret3
            exact ⟨trip_good (x := v.toNat) (n := 3) HD.out (.inl (by omega)) (by omega) rfl, rfl⟩
theorem four_bad {s : ByteArray} {k j : Nat} (hb : 240 ≤ gb s k) (hb' : gb s k < 248) (h1 : 1 ≤ j) (h2 : j < 4) (h : gb s (k + j) < 128 ∨ 192 ≤ gb s (k + j)) : dec (tl s k) = (65533, 1) := by
  rw [dec_tl]
  have q : gb s (k + 1) < 128 ∨ 192 ≤ gb s (k + 1) ∨ gb s (k + 2) < 128 ∨ 192 ≤ gb s (k + 2) ∨ gb s (k + 3) < 128 ∨ 192 ≤ gb s (k + 3) := by
    rcases (by omega : j = 1 ∨ j = 2 ∨ j = 3) with rfl | rfl | rfl <;> omega
  exact dN_four_bad _ _ _ _ _ hb hb' (.inr q) (gb_lt s _) (gb_lt s _) (gb_lt s _)
theorem four_end {s : ByteArray} {k : Nat} {v : Int} (hb : 240 ≤ gb s k) (hb' : gb s k < 248) (hn : k + 4 ≤ s.size) (h : St s k ((gb s k : Int) - 240) 4 v) :
    dec (tl s k) = if fits 4 v = true then (v.toNat, 4) else (65533, 1) := by
  rw [dec_tl]
  obtain ⟨rfl, hc⟩ := h
  have c1 := hc 1 (by omega) (by omega)
  have c2 := hc 2 (by omega) (by omega)
  have c3 := hc 3 (by omega) (by omega)
  exact dN_four _ _ _ _ _ hb hb' (by omega) c1.1 c1.2 c2.1 c2.2 c3.1 c3.2
set_option maxHeartbeats 2000000 in
theorem rnext_four (s : ByteArray) (k : Nat) (w : World) (hs : s.size ≤ 100000) (hk : k < s.size) (hb : 240 ≤ gb s k) (hb' : gb s k < 248) :
    Calls Tryz.prog 32 #[.string s, .int .i64 k] w fun e w' => e = trip (tl s k) ∧ w = w' := by
  have hg := gb_of s k hk
  have h1 : 240 ≤ ((s[k]'hk).toNat : Int) := by omega
  have h2 : ((s[k]'hk).toNat : Int) < 248 := by omega
  by_cases hn : s.size < k + 4
  · have hd : dec (tl s k) = (65533, 1) := by rw [dec_tl, dN_four_bad _ _ _ _ _ hb hb' (.inl (by omega)) (gb_lt s _) (gb_lt s _) (gb_lt s _)]
    have HD := Lib.hid hd
    have hn' : (s.size : Int) - k < 4 := by omega
    clear hg hd
    go_enter Tryz.func32, Tryz.ntmps32
    go_wp2
    go_ret3
    exact ⟨trip_bad HD.out, rfl⟩
  · have hn' : ¬ ((s.size : Int) - k < 4) := by omega
    have HG := Lib.hid hg
    clear hg
    go_enter Tryz.func32, Tryz.ntmps32
    go_wp2_with fail
    go_loopg [9, 11] 4 (fun kx x i wr => ∃ (j : Nat) (v : Int), x = .int .i64 v ∧ i = .int .i64 j ∧ 1 ≤ j ∧ j ≤ 4 ∧ 4 - j ≤ kx ∧ 0 ≤ v ∧ v < 8388608 ∧ Hid (St s k ((gb s k : Int) - 240) j v) ∧ Hid (w = wr))
    case atStart => exact ⟨1, _, rfl, rfl, by omega, by omega, by omega, by omega, by omega, by rw [HG.out]; exact St.first _ _ _, rfl⟩
    case round =>
      obtain ⟨j, v, rfl, rfl, hj1, hj2, hkx, hv0, hv1, HS, HW⟩ := hrel
      obtain rfl := HW.out
      by_cases hlt : j < 4
      · have hkj : k + j < s.size := by omega
        have hgj := gb_of s (k + j) hkj
        have hlj := gb_lt s (k + j)
        have h4 : ((s[k + j]'hkj).toNat : Int) < 256 := by omega
        by_cases hc : 128 ≤ gb s (k + j) ∧ gb s (k + j) < 192
        · have c1 : 128 ≤ ((s[k + j]'hkj).toNat : Int) := by omega
          have c2 : ((s[k + j]'hkj).toNat : Int) < 192 := by omega
          have HGJ := Lib.hid hgj
          clear hgj hlj
          go_wp2_with (go_at_call 57; refine (more_yes _ _ (by omega) (by omega)).mono ?_; rintro e w' ⟨rfl, rfl⟩)
          have hst : St s k ((gb s k : Int) - 240) (j + 1) (v * 64 + (s[k + j]'hkj).toNat - 128) := HS.out.next hj1 hc.1 hc.2 (by rw [HGJ.out])
          have hbd := hst.bound (by omega) (by omega) (by omega) (by omega)
          go_roundg (4 - (j + 1))
          case measure => omega
          case rel => exact ⟨j + 1, _, rfl, by go_num, by omega, by omega, by omega, hbd.1, hbd.2, hst, rfl⟩
        · have hd := four_bad hb hb' hj1 hlt (by omega)
          have HD := Lib.hid hd
          clear hd
          by_cases c1 : 128 ≤ gb s (k + j)
          · have c2 : 192 ≤ ((s[k + j]'hkj).toNat : Int) := by omega
            clear hgj hlj
            go_wp2_with (go_at_call 57; refine (more_no _ _ (by omega)).mono ?_; rintro e w' ⟨rfl, rfl⟩)
            go_ret3
            exact ⟨trip_bad HD.out, rfl⟩
          · have c2 : ((s[k + j]'hkj).toNat : Int) < 128 := by omega
            clear hgj hlj
            go_wp2_with (go_at_call 57; refine (more_no _ _ (by omega)).mono ?_; rintro e w' ⟨rfl, rfl⟩)
            go_ret3
            exact ⟨trip_bad HD.out, rfl⟩
      · obtain rfl : j = 4 := by omega
        have hd := four_end hb hb' (by omega) HS.out
        by_cases f1 : v < 65536
        · have f : fits 4 v = false := by simp [fits]; omega
          rw [f] at hd
          have HD := Lib.hid hd
          clear hd f
          go_wp2
          go_ret3
          exact ⟨trip_bad HD.out, rfl⟩
        by_cases f2 : v > 1114111
        · have f : fits 4 v = false := by simp [fits]; omega
          rw [f] at hd
          have HD := Lib.hid hd
          clear hd f
          go_wp2
          go_ret3
          exact ⟨trip_bad HD.out, rfl⟩
        by_cases f3 : 55296 ≤ v ∧ v < 57344
        · have f : fits 4 v = false := by simp [fits]; omega
          obtain ⟨f3, f4⟩ := f3
          rw [f] at hd
          have HD := Lib.hid hd
          clear hd f
          go_wp2
          go_ret3
          exact ⟨trip_bad HD.out, rfl⟩
        · have f : fits 4 v = true := by simp [fits]; omega
          rw [f] at hd
          have HD := Lib.hid hd
          clear hd f
          by_cases f4 : 55296 ≤ v
          · have f5 : ¬ v < 57344 := by omega
            clear f3
            go_wp2
            go_ret3
            exact ⟨trip_good (x := v.toNat) (n := 4) HD.out (.inl (by omega)) (by omega) rfl, rfl⟩
          · clear f3
            go_wp2
            go_ret3
            exact ⟨trip_good (x := v.toNat) (n := 4) HD.out (.inl (by omega)) (by omega) rfl, rfl⟩
theorem rnext_any (s : ByteArray) (k : Nat) (w : World) (hs : s.size ≤ 100000) (hk : k < s.size) :
    Calls Tryz.prog 32 #[.string s, .int .i64 k] w fun e w' => e = trip (tl s k) ∧ w = w' := by
  by_cases h1 : gb s k < 128
  · exact rnext_ascii s k w hs hk h1
  by_cases h2 : gb s k < 192
  · exact rnext_none s k w hs hk (by omega) (.inl h2)
  by_cases h3 : gb s k < 224
  · exact rnext_two s k w hs hk (by omega) h3
  by_cases h4 : gb s k < 240
  · exact rnext_three s k w hs hk (by omega) h4
  by_cases h5 : gb s k < 248
  · exact rnext_four s k w hs hk (by omega) h5
  · exact rnext_none s k w hs hk (by omega) (.inr (by omega))
end Go.Proofs.YtiabkkdeonepgaaGreatDoor
namespace Go.Proofs.YtiabkkdeonepgaaGreatDoor
open Go.RowKit
theorem get_of (t : ByteArray) (i : Nat) : t.get! i = t.data.toList.getD i 0 := by
  obtain ⟨⟨l⟩⟩ := t
  show (Array.mk l)[i]! = l.getD i 0
  rw [getElem!_def]
  simp only [List.getD_eq_getElem?_getD]
  cases h : l[i]? with
  | none => simp [h]; rfl
  | some v => simp [h]
theorem decode_zero (t : ByteArray) : Utf8.decode t 0 = dec t.data.toList := by
  rw [Lib.decode_at, get_of, get_of, get_of, get_of]
  unfold dec
  simp
theorem ext_list (s : ByteArray) (i j : Nat) : (s.extract i j).data.toList = (s.data.toList.drop i).take (j - i) := by
  rw [ByteArray.data_extract, Array.toList_extract, List.extract_eq_take_drop]
theorem ext_end (s : ByteArray) (k : Nat) : (s.extract k s.size).data.toList = tl s k := by
  rw [ext_list]
  exact List.take_of_length_le (by simp)
abbrev Tabs (w : World) : Prop := Lib.Utf8Tabs 0 1 w
set_option maxHeartbeats 1000000 in
theorem next_in (s : ByteArray) (k : Nat) (w : World) (hT : Tabs w) (_hs : s.size ≤ 100000) (hk : k < s.size) :
    Calls Tryz.prog 61 #[.string s, .int .i64 k] w fun e w' => e = .returned (.tuple #[.int .i32 (dec (tl s k)).1, .int .i64 (dec (tl s k)).2]) ∧ Below w.heap.size w w' := by
  have c := sh_utf8_DecodeRuneInString (s.extract k s.size) w hT
  have e1 : Lib.decodeGo (s.extract k s.size) = dec (tl s k) := by
    unfold Lib.decodeGo
    rw [if_neg (by rw [ByteArray.size_extract]; omega), decode_zero, ext_end]
  rw [e1] at c
  have C := Lib.hid c
  have h1 : ¬ ((s.size : Int) ≤ (k : Int)) := by omega
  clear c e1
  go_enter Tryz.func61, Tryz.ntmps61
  go_wp2_with fail
  refine C.out.mono ?_
  rintro e w1 ⟨rfl, hb⟩
  have HB := Lib.hid hb
  clear hb
  go_wp2_with fail
  go_ret2
  exact ⟨rfl, HB.out⟩
end Go.Proofs.YtiabkkdeonepgaaGreatDoor
namespace Go.Proofs.YtiabkkdeonepgaaGreatDoor
open Go.RowKit
def Upto (s : ByteArray) (k : Nat) : Prop := badAt s.data.toList = (badAt (tl s k)).map (· + k)
theorem tl_zero (s : ByteArray) : tl s 0 = s.data.toList := rfl
theorem Upto.first (s : ByteArray) : Upto s 0 := by
  unfold Upto
  rw [tl_zero]
  cases badAt s.data.toList <;> simp
theorem Upto.next {s : ByteArray} {k : Nat} (h : Upto s k) (hk : k < s.size) (hok : okc (tl s k) = true) : Upto s (k + (dec (tl s k)).2) := by
  unfold Upto at h ⊢
  rw [h, bad_step (tl_ne s k hk) hok, tl_drop, Option.map_map]
  congr 1
  funext x
  simp only [Function.comp_apply]
  omega
theorem Upto.here {s : ByteArray} {k : Nat} (h : Upto s k) (hk : k < s.size) (hok : okc (tl s k) = false) : badI s.data.toList = k := by
  unfold Upto at h
  rw [bad_here (tl_ne s k hk) hok] at h
  unfold badI
  rw [h]
  simp
theorem Upto.done {s : ByteArray} {k : Nat} (h : Upto s k) (hk : s.size ≤ k) : badI s.data.toList = -1 := by
  unfold Upto at h
  rw [tl_end s k hk, bad_nil] at h
  exact badI_none h
set_option maxHeartbeats 2000000 in
theorem bad_any (s : ByteArray) (w : World) (hT : Tabs w) (hs : s.size ≤ 100000) :
    Calls Tryz.prog 41 #[.string s] w fun e w' => e = .returned (.int .i64 (badI s.data.toList)) ∧ Below w.heap.size w w' := by
  have HT := Lib.hid hT
  clear hT
  go_enter Tryz.func41, Tryz.ntmps41
  go_wp2_with fail
  go_loopg [3] s.size (fun kx a wr => ∃ k : Nat, a = .int .i64 k ∧ k ≤ s.size ∧ s.size - k ≤ kx ∧ Hid (Upto s k) ∧ Hid (Tabs wr) ∧ Hid (Below w.heap.size w wr))
  case atStart => exact ⟨0, rfl, by omega, by omega, Upto.first s, HT.out, Below.refl _ _⟩
  case round =>
    obtain ⟨k, rfl, hk, hkx, HU, HW, HB⟩ := hrel
    by_cases hlt : k < s.size
    · have hlz : (k : Int) < (s.size : Int) := by omega
      have hd := dec_w s k hlt
      obtain ⟨r, hr⟩ : ∃ r, r = (dec (tl s k)).1 := ⟨_, rfl⟩
      obtain ⟨n, hn⟩ : ∃ n, n = (dec (tl s k)).2 := ⟨_, rfl⟩
      have c := next_in s k wr HW.out hs hlt
      rw [← hr, ← hn] at c
      rw [← hn] at hd
      have C := Lib.hid c
      have HR := Lib.hid hr
      have HN := Lib.hid hn
      clear c hr hn
      go_wp2_with fail
      refine C.out.mono ?_
      rintro e w1 ⟨rfl, hb⟩
      have HB1 := Lib.hid (HB.out.trans (hb.mono HB.out.size))
      have HT1 := Lib.hid (Utf8Tabs_below HW.out hb)
      clear hb
      cases hok : okc (tl s k)
      · have hbad := okc_bad hok
        rw [hbad] at HR HN
        obtain rfl := HR.out
        obtain rfl := HN.out
        have HF := Lib.hid (HU.out.here hlt hok)
        clear hbad hok
        go_wp2_with fail
        go_ret
        exact ⟨ri HF.out.symm, HB1.out⟩
      · have hne := okc_ne hok
        have hrn : ¬ (r = 65533 ∧ n = 1) := fun h => hne (Prod.ext (by rw [← HR.out]; exact h.1) (by rw [← HN.out]; exact h.2))
        have HF := Lib.hid (HU.out.next hlt hok)
        rw [← HN.out] at HF
        clear hne hok
        by_cases hr : r = 65533
        · have h1 : ((r : Int) == 65533) = true := by simp; omega
          have h2 : ((n : Int) == 1) = false := by simp; omega
          clear hrn hr
          go_wp2_with fail
          go_roundg (s.size - (k + n))
          case measure => omega
          case rel => exact ⟨k + n, by go_num, by omega, by omega, HF.out, HT1.out, HB1.out⟩
        · have h1 : ((r : Int) == 65533) = false := by simp; omega
          clear hrn hr
          go_wp2_with fail
          go_roundg (s.size - (k + n))
          case measure => omega
          case rel => exact ⟨k + n, by go_num, by omega, by omega, HF.out, HT1.out, HB1.out⟩
    · have hlz : ¬ (k : Int) < (s.size : Int) := by omega
      have HF := Lib.hid (HU.out.done (by omega))
      go_wp2_with fail
      go_ret
      exact ⟨ri HF.out.symm, HB.out⟩
set_option maxHeartbeats 2000000 in
theorem rbad_any (s : ByteArray) (w : World) (hs : s.size ≤ 100000) :
    Calls Tryz.prog 19 #[.string s] w fun e w' => e = .returned (.int .i64 (badI s.data.toList)) ∧ w = w' := by
  go_enter Tryz.func19, Tryz.ntmps19
  go_wp2_with fail
  go_loopg [3] s.size (fun kx a wr => ∃ k : Nat, a = .int .i64 k ∧ k ≤ s.size ∧ s.size - k ≤ kx ∧ Hid (Upto s k) ∧ Hid (w = wr))
  case atStart => exact ⟨0, rfl, by omega, by omega, Upto.first s, rfl⟩
  case round =>
    obtain ⟨k, rfl, hk, hkx, HU, HW⟩ := hrel
    obtain rfl := HW.out
    by_cases hlt : k < s.size
    · have hlz : (k : Int) < (s.size : Int) := by omega
      have hd := dec_w s k hlt
      obtain ⟨n, hn⟩ : ∃ n, n = (dec (tl s k)).2 := ⟨_, rfl⟩
      have c := rnext_any s k w hs hlt
      unfold trip at c
      rw [← hn] at c hd
      cases hok : okc (tl s k)
      · rw [hok] at c
        have C := Lib.hid c
        have HF := Lib.hid (HU.out.here hlt hok)
        clear c hn hok
        go_wp2_with fail
        refine C.out.mono ?_
        rintro e w1 ⟨rfl, rfl⟩
        go_wp2_with fail
        go_ret
        exact ⟨ri HF.out.symm, rfl⟩
      · rw [hok] at c
        have C := Lib.hid c
        have HF := Lib.hid (HU.out.next hlt hok)
        rw [← hn] at HF
        clear c hn hok
        go_wp2_with fail
        refine C.out.mono ?_
        rintro e w1 ⟨rfl, rfl⟩
        go_wp2_with fail
        go_roundg (s.size - (k + n))
        case measure => omega
        case rel => exact ⟨k + n, by go_num, by omega, by omega, HF.out, rfl⟩
    · have hlz : ¬ (k : Int) < (s.size : Int) := by omega
      have HF := Lib.hid (HU.out.done (by omega))
      go_wp2_with fail
      go_ret
      exact ⟨ri HF.out.symm, rfl⟩
end Go.Proofs.YtiabkkdeonepgaaGreatDoor
namespace Go.Proofs.YtiabkkdeonepgaaGreatDoor
open Go.RowKit
end Go.Proofs.YtiabkkdeonepgaaGreatDoor
