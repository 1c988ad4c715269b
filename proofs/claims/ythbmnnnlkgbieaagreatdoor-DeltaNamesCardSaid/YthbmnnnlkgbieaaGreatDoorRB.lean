/- Contracts: where a text stops being UTF-8, how many characters it has, by package runes and by the document's answer. -/
import Derived.Test.YthbmnnnlkgbieaaGreatDoorRA
namespace Go.Proofs.YthbmnnnlkgbieaaGreatDoor
open Go.RowKit

/-- All ahead of a place is UTF-8. -/
def Upto (s : ByteArray) (k : Nat) : Prop := badAt s.data.toList = (badAt (tl s k)).map (· + k)
theorem tl_zero (s : ByteArray) : tl s 0 = s.data.toList := rfl
theorem Upto.first (s : ByteArray) : Upto s 0 := by
  unfold Upto
  rw [tl_zero]
  cases badAt s.data.toList <;> simp
theorem Upto.next {s : ByteArray} {k : Nat} (h : Upto s k) (hk : k < s.size) (hok : okc (tl s k) = true) : Upto s (k + (dec (tl s k)).2) := by
  unfold Upto at h ⊢
  rw [h, bad_step (tl_ne s k hk) hok, tl_drop, Option.map_map]
  congr 1
  funext x
  simp only [Function.comp_apply]
  omega
theorem Upto.here {s : ByteArray} {k : Nat} (h : Upto s k) (hk : k < s.size) (hok : okc (tl s k) = false) : badI s.data.toList = k := by
  unfold Upto at h
  rw [bad_here (tl_ne s k hk) hok] at h
  unfold badI
  rw [h]
  simp
theorem Upto.done {s : ByteArray} {k : Nat} (h : Upto s k) (hk : s.size ≤ k) : badI s.data.toList = -1 := by
  unfold Upto at h
  rw [tl_end s k hk, bad_nil] at h
  exact badI_none h

set_option maxHeartbeats 2000000 in
theorem bad_any (s : ByteArray) (w : World) (hT : Tabs w) (hs : s.size ≤ 100000) :
    Calls Tryz.prog 38 #[.string s] w fun e w' => e = .returned (.int .i64 (badI s.data.toList)) ∧ Below w.heap.size w w' := by
  have HT := Lib.hid hT
  clear hT
  go_enter Tryz.func38, Tryz.ntmps38
  go_wp2_with fail
  go_loopg [3] s.size (fun kx a wr => ∃ k : Nat, a = .int .i64 k ∧ k ≤ s.size ∧ s.size - k ≤ kx ∧ Hid (Upto s k) ∧ Hid (Tabs wr) ∧ Hid (Below w.heap.size w wr))
  case atStart => exact ⟨0, rfl, by omega, by omega, Upto.first s, HT.out, Below.refl _ _⟩
  case round =>
    obtain ⟨k, rfl, hk, hkx, HU, HW, HB⟩ := hrel
    by_cases hlt : k < s.size
    · have hlz : (k : Int) < (s.size : Int) := by omega
      have hd := dec_w s k hlt
      obtain ⟨r, hr⟩ : ∃ r, r = (dec (tl s k)).1 := ⟨_, rfl⟩
      obtain ⟨n, hn⟩ : ∃ n, n = (dec (tl s k)).2 := ⟨_, rfl⟩
      have c := next_in s k wr HW.out hs hlt
      rw [← hr, ← hn] at c
      rw [← hn] at hd
      have C := Lib.hid c
      have HR := Lib.hid hr
      have HN := Lib.hid hn
      clear c hr hn
      go_wp2_with fail
      refine C.out.mono ?_
      rintro e w1 ⟨rfl, hb⟩
      have HB1 := Lib.hid (HB.out.trans (hb.mono HB.out.size))
      have HT1 := Lib.hid (Utf8Tabs_below HW.out hb)
      clear hb
      cases hok : okc (tl s k)
      · have hbad := okc_bad hok
        rw [hbad] at HR HN
        obtain rfl := HR.out
        obtain rfl := HN.out
        have HF := Lib.hid (HU.out.here hlt hok)
        clear hbad hok
        go_wp2_with fail
        go_ret
        exact ⟨ri HF.out.symm, HB1.out⟩
      · have hne := okc_ne hok
        have hrn : ¬ (r = 65533 ∧ n = 1) := fun h => hne (Prod.ext (by rw [← HR.out]; exact h.1) (by rw [← HN.out]; exact h.2))
        have HF := Lib.hid (HU.out.next hlt hok)
        rw [← HN.out] at HF
        clear hne hok
        by_cases hr : r = 65533
        · have h1 : ((r : Int) == 65533) = true := by simp; omega
          have h2 : ((n : Int) == 1) = false := by simp; omega
          clear hrn hr
          go_wp2_with fail
          go_roundg (s.size - (k + n))
          case measure => omega
          case rel => exact ⟨k + n, by go_num, by omega, by omega, HF.out, HT1.out, HB1.out⟩
        · have h1 : ((r : Int) == 65533) = false := by simp; omega
          clear hrn hr
          go_wp2_with fail
          go_roundg (s.size - (k + n))
          case measure => omega
          case rel => exact ⟨k + n, by go_num, by omega, by omega, HF.out, HT1.out, HB1.out⟩
    · have hlz : ¬ (k : Int) < (s.size : Int) := by omega
      have HF := Lib.hid (HU.out.done (by omega))
      go_wp2_with fail
      go_ret
      exact ⟨ri HF.out.symm, HB.out⟩

set_option maxHeartbeats 2000000 in
theorem rbad_any (s : ByteArray) (w : World) (hs : s.size ≤ 100000) :
    Calls Tryz.prog 32 #[.string s] w fun e w' => e = .returned (.int .i64 (badI s.data.toList)) ∧ w = w' := by
  go_enter Tryz.func32, Tryz.ntmps32
  go_wp2_with fail
  go_loopg [3] s.size (fun kx a wr => ∃ k : Nat, a = .int .i64 k ∧ k ≤ s.size ∧ s.size - k ≤ kx ∧ Hid (Upto s k) ∧ Hid (w = wr))
  case atStart => exact ⟨0, rfl, by omega, by omega, Upto.first s, rfl⟩
  case round =>
    obtain ⟨k, rfl, hk, hkx, HU, HW⟩ := hrel
    obtain rfl := HW.out
    by_cases hlt : k < s.size
    · have hlz : (k : Int) < (s.size : Int) := by omega
      have hd := dec_w s k hlt
      obtain ⟨n, hn⟩ : ∃ n, n = (dec (tl s k)).2 := ⟨_, rfl⟩
      have c := rnext_any s k w hs hlt
      unfold trip at c
      rw [← hn] at c hd
      cases hok : okc (tl s k)
      · rw [hok] at c
        have C := Lib.hid c
        have HF := Lib.hid (HU.out.here hlt hok)
        clear c hn hok
        go_wp2_with fail
        refine C.out.mono ?_
        rintro e w1 ⟨rfl, rfl⟩
        go_wp2_with fail
        go_ret
        exact ⟨ri HF.out.symm, rfl⟩
      · rw [hok] at c
        have C := Lib.hid c
        have HF := Lib.hid (HU.out.next hlt hok)
        rw [← hn] at HF
        clear c hn hok
        go_wp2_with fail
        refine C.out.mono ?_
        rintro e w1 ⟨rfl, rfl⟩
        go_wp2_with fail
        go_roundg (s.size - (k + n))
        case measure => omega
        case rel => exact ⟨k + n, by go_num, by omega, by omega, HF.out, rfl⟩
    · have hlz : ¬ (k : Int) < (s.size : Int) := by omega
      have HF := Lib.hid (HU.out.done (by omega))
      go_wp2_with fail
      go_ret
      exact ⟨ri HF.out.symm, rfl⟩

end Go.Proofs.YthbmnnnlkgbieaaGreatDoor
