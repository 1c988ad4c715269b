/- Contracts: the library's rotate at edits. -/
import Derived.Test.YtendbkbjmibchaaSC
namespace Go.Proofs.Ytendbkbjmibchaa
open Go.RowKit Go.Sort Go.Proofs Go.Shelf

theorem rot_more {d : Nat → Ed} {d2 : Nat → Ed} {m i j : Nat} (hj : 0 < j) (hij : j < i) (hi : i ≤ m) (h : ∀ x, d2 x = srg d (m - i) m j x) (x : Nat) : rot d2 (m - (i - j)) m (m + j) x = rot d (m - i) m (m + j) x := by
  unfold rot
  simp only [h]
  unfold srg
  (repeat' split) <;> first | omega | rfl | (congr 1; omega)
theorem rot_less {d : Nat → Ed} {d2 : Nat → Ed} {m i j : Nat} (h0 : 0 < i) (hij : i < j) (hi : i ≤ m) (h : ∀ x, d2 x = srg d (m - i) (m + j - i) i x) (x : Nat) : rot d2 (m - i) m (m + (j - i)) x = rot d (m - i) m (m + j) x := by
  unfold rot
  simp only [h]
  unfold srg
  (repeat' split) <;> first | omega | rfl | (congr 1; omega)
theorem rot_one {d : Nat → Ed} {d2 : Nat → Ed} {m i : Nat} (h0 : 0 < i) (hi : i ≤ m) (h : ∀ x, d2 x = srg d (m - i) m i x) (x : Nat) : d2 x = rot d (m - i) m (m + i) x := by
  unfold rot
  simp only [h]
  unfold srg
  (repeat' split) <;> first | omega | rfl | (congr 1; omega)

set_option maxHeartbeats 4000000 in
set_option maxRecDepth 1000000 in
theorem rotate_any (blk off cap a m b : Nat) (g : Nat) (cb : Array Value) (d0 d : Array Ed) (w0 w : World)
    (R : RowK enc3 3 w0 blk off d0) (hs : d0.size = d.size) (S : SWK enc3 3 w0 blk off d w) (ham : a < m) (hmb : m < b) (hb : b ≤ d.size) (hsz : d.size < 4611686018427387904) :
    Calls Try.prog 75 #[.slice (some ⟨blk, off, none⟩) d.size cap, .int .i64 a, .int .i64 m, .int .i64 b, .func (.func g) #[] cb] w fun e w' => e = .returned (.tuple #[]) ∧ ∃ d', SWK enc3 3 w0 blk off d' w' ∧ d'.size = d.size ∧ PermIn a b d d' ∧ ∀ x, d'[x]! = rot (at_ d) a m b x := by
  have S0 : Aside (SWK enc3 3 w0 blk off d w) := S
  clear S
  go_enter Try.func75, Try.ntmps75
  go_wp2_with fail
  go_loopg [10, 11] (m - a + (b - m)) (fun kx s10 s11 wr => ∃ (i j : Nat) (dk : Array Ed), s10 = .int .i64 i ∧ s11 = .int .i64 j ∧ 0 < i ∧ 0 < j ∧ i ≤ m - a ∧ j ≤ b - m ∧ i + j ≤ kx ∧ dk.size = d.size ∧ Aside (SWK enc3 3 w0 blk off dk wr) ∧ Hid (PermIn a b d dk) ∧ Hid (∀ x, rot (at_ dk) (m - i) m (m + j) x = rot (at_ d) a m b x))
  case atStart => exact ⟨m - a, b - m, d, by go_num, by go_num, by omega, by omega, by omega, by omega, by omega, rfl, S0, permIn_refl _ _ _, fun x => by rw [show m - (m - a) = a by omega, show m + (b - m) = b by omega]⟩
  case round =>
    clear S0
    obtain ⟨i, j, dk, rfl, rfl, hi0, hj0, hia, hjb, hkx, hds, S1, HP, HE⟩ := hrel
    have e1 : ((m - i : Nat) : Int) = (m : Int) - (i : Int) := by omega
    by_cases hij : i = j
    · subst hij
      have c := swapRange_any blk off cap (m - i) m i g cb d0 dk w0 wr R (by omega) S1.out (by omega) (by omega) (by omega) a b (by omega) (by omega) (by omega)
      rw [e1, hds] at c
      have C := Lib.hid c
      clear c S1
      go_wp2_with fail
      refine C.out.mono ?_
      rintro e w2 ⟨rfl, d2, s2, z2, p2, x2⟩
      have S2 : Aside _ := s2
      have P2 := Lib.hid p2
      have X2 := Lib.hid x2
      clear s2 p2 x2
      go_wp2
      go_end0
      exact ⟨rfl, d2, S2.out, by omega, permIn_trans _ _ _ _ _ HP.out P2.out, fun x => by rw [← HE.out]; exact rot_one (d := at_ dk) (d2 := at_ d2) hi0 (by omega) X2.out x⟩
    · have hne : ((i : Int) == (j : Int)) = false := by simpa using (by omega : (i : Int) ≠ (j : Int))
      by_cases hlt : j < i
      · have hlt' : (j : Int) < (i : Int) := by omega
        have c := swapRange_any blk off cap (m - i) m j g cb d0 dk w0 wr R (by omega) S1.out (by omega) (by omega) (by omega) a b (by omega) (by omega) (by omega)
        rw [e1, hds] at c
        have C := Lib.hid c
        have E2 : ((i - j : Nat) : Int) = (i : Int) - (j : Int) := by omega
        clear c S1 hij
        go_wp2_with fail
        refine C.out.mono ?_
        rintro e w2 ⟨rfl, d2, s2, z2, p2, x2⟩
        have S2 : Aside _ := s2
        have P2 := Lib.hid p2
        have X2 := Lib.hid x2
        clear s2 p2 x2
        go_wp2
        go_roundg (i - j + j)
        case measure => omega
        case rel => exact ⟨i - j, j, d2, by rw [E2], rfl, by omega, by omega, by omega, by omega, by omega, by omega, S2, permIn_trans _ _ _ _ _ HP.out P2.out, fun x => by rw [← HE.out]; exact rot_more (d := at_ dk) (d2 := at_ d2) hj0 hlt (by omega) X2.out x⟩
      · have hlt' : (i : Int) < (j : Int) := by omega
        have hd : decide ((j : Int) < (i : Int)) = false := by simp; omega
        have c := swapRange_any blk off cap (m - i) (m + j - i) i g cb d0 dk w0 wr R (by omega) S1.out (by omega) (by omega) (by omega) a b (by omega) (by omega) (by omega)
        rw [e1, hds, show ((m + j - i : Nat) : Int) = (m : Int) + (j : Int) - (i : Int) by omega] at c
        have C := Lib.hid c
        have E2 : ((j - i : Nat) : Int) = (j : Int) - (i : Int) := by omega
        clear c S1 hij hlt
        go_wp2_with fail
        refine C.out.mono ?_
        rintro e w2 ⟨rfl, d2, s2, z2, p2, x2⟩
        have S2 : Aside _ := s2
        have P2 := Lib.hid p2
        have X2 := Lib.hid x2
        clear s2 p2 x2
        go_wp2
        go_roundg (i + (j - i))
        case measure => omega
        case rel => exact ⟨i, j - i, d2, rfl, by rw [E2], by omega, by omega, by omega, by omega, by omega, by omega, S2, permIn_trans _ _ _ _ _ HP.out P2.out, fun x => by rw [← HE.out]; exact rot_less (d := at_ dk) (d2 := at_ d2) hi0 (by omega) (by omega) X2.out x⟩
end Go.Proofs.Ytendbkbjmibchaa
