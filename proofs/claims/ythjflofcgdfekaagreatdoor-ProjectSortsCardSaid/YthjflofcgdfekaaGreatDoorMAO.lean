import Derived.Test.YthjflofcgdfekaaGreatDoorMAK
import Derived.BigRegion
import Derived.Shelf.SlSortCmp.QuietGrown
namespace Go.Proofs.YthjflofcgdfekaaGreatDoor
open Go.RowKit Go.Sort Go.Proofs Go.Shelf
namespace Sb
def srg (d : Nat → Be) (a b n x : Nat) : Be := if a ≤ x ∧ x < a + n then d (x - a + b) else if b ≤ x ∧ x < b + n then d (x - b + a) else d x
def rot (d : Nat → Be) (a m b x : Nat) : Be := if a ≤ x ∧ x < b then (if x < a + (b - m) then d (x + m - a) else d (x - (b - m))) else d x
theorem swk_cells {w0 W : World} {blk off : Nat} {d0 dk : Array Be} (S : SWK enc2 2 w0 blk off dk W) (R : RowK enc2 2 w0 blk off d0) (hs : dk.size = d0.size) (i : Nat) (hi : i < dk.size) :
    (W.cell? ⟨blk, off + i * 2, none⟩ = some (.int .i64 dk[i]!.a) ∧ W.cell? ⟨blk, off + i * 2 + 1, none⟩ = some (.int .i64 dk[i]!.c)) ∧
      W.frozen? ⟨blk, off + i * 2, none⟩ = false ∧ W.frozen? ⟨blk, off + i * 2 + 1, none⟩ = false := by
  have h := S.holds R.hblk R.hH hs
  have h0 := h.cell (c := 0) hi (by decide)
  have h1 := h.cell (c := 1) hi (by decide)
  exact ⟨⟨h0.1, h1.1⟩, h0.2, h1.2⟩
def sw6 (w : World) (blk p q : Nat) (X Y : Be) : World := ((((w.setCell ⟨blk, p, none⟩ (.int .i64 Y.a)).setCell ⟨blk, p + 1, none⟩ (.int .i64 Y.c)).setCell ⟨blk, q, none⟩ (.int .i64 X.a)).setCell ⟨blk, q + 1, none⟩ (.int .i64 X.c)).drew
theorem drew_set (w : World) (p : Addr) (v : Value) : (w.setCell p v).drew = w.drew.setCell p v := rfl
theorem swk_sw6 {w0 W : World} {blk off : Nat} {d0 dk : Array Be} (S : SWK enc2 2 w0 blk off dk W) (R : RowK enc2 2 w0 blk off d0) (i j : Nat) (hi : i < dk.size) (hj : j < dk.size) :
    SWK enc2 2 w0 blk off (swp dk i j) (sw6 W blk (off + i * 2) (off + j * 2) dk[i]! dk[j]!) := by
  have h := S.swapped R i j hi hj
  have e : sw6 W blk (off + i * 2) (off + j * 2) dk[i]! dk[j]! = (W.drew.setCells blk (off + i * 2) (enc2 dk[j]!)).setCells blk (off + j * 2) (enc2 dk[i]!) := by
    unfold sw6 enc2
    simp only [drew_set, World.setCells]
  rw [e]
  exact h
theorem swp_sw {d dk : Array Be} {lo hi i j : Nat} (h : PermIn lo hi d dk) (hi1 : lo ≤ i) (hi2 : i < hi) (hj1 : lo ≤ j) (hj2 : j < hi) (hh : hi ≤ d.size) : PermIn lo hi d (swp dk i j) :=
  permIn_trans _ _ _ _ _ h (swp_permIn dk lo hi i j hi1 hi2 hj1 hj2 (by rw [h.1]; exact hh))
theorem srg_step {d dk : Array Be} {a b n i : Nat} (h : ∀ x, dk[x]! = srg (at_ d) a b i x) (hab : a + n ≤ b) (hi : i < n) (hb : b + n ≤ dk.size) (x : Nat) : (swp dk (a + i) (b + i))[x]! = srg (at_ d) a b (i + 1) x := by
  rw [swp_get dk (by omega) (by omega), h, h, h]
  unfold srg at_
  (repeat' split) <;> first | omega | rfl | (congr 1; omega)
set_option maxHeartbeats 4000000 in
set_option maxRecDepth 1000000 in
theorem swapRange_any (blk off cap a b n : Nat) (g : Nat) (cb : Array Value) (d0 d : Array Be) (w0 w : World)
    (R : RowK enc2 2 w0 blk off d0) (hs : d0.size = d.size) (S : SWK enc2 2 w0 blk off d w) (hab : a + n ≤ b) (hb : b + n ≤ d.size) (hsz : d.size < 4611686018427387904) (lo hi : Nat) (hlo : lo ≤ a) (hhi : b + n ≤ hi) (hhs : hi ≤ d.size) :
    Calls Tryz.prog 254 #[.slice (some ⟨blk, off, none⟩) d.size cap, .int .i64 a, .int .i64 b, .int .i64 n, .func (.func g) #[] cb] w fun e w' => e = .returned (.tuple #[]) ∧ ∃ d', SWK enc2 2 w0 blk off d' w' ∧ d'.size = d.size ∧ PermIn lo hi d d' ∧ ∀ x, d'[x]! = srg (at_ d) a b n x := by
  have S0 : Aside (SWK enc2 2 w0 blk off d w) := S
  clear S
  go_enter Tryz.func254, Tryz.ntmps254
  go_wp2_with fail
  go_loopg [10] n (fun kx s10 wr => ∃ (i : Nat) (dk : Array Be), s10 = .int .i64 i ∧ i ≤ n ∧ n - i ≤ kx ∧ dk.size = d.size ∧ Aside (SWK enc2 2 w0 blk off dk wr) ∧ Hid (PermIn lo hi d dk) ∧ Hid (∀ x, dk[x]! = srg (at_ d) a b i x))
  case atStart => exact ⟨0, d, rfl, by omega, by omega, rfl, S0, permIn_refl _ _ _, fun x => by unfold srg; rw [if_neg (by omega), if_neg (by omega)]⟩
  case round =>
    clear S0
    obtain ⟨i, dk, rfl, hin, hkx, hds, S1, HP, HE⟩ := hrel
    by_cases hlt : i < n
    · have h1 : (i : Int) < (n : Int) := by omega
      have ea : ((a : Int) + (i : Int)).toNat = a + i := by omega
      have eb : ((b : Int) + (i : Int)).toNat = b + i := by omega
      have pa : (0 : Int) ≤ (a : Int) + (i : Int) := by omega
      have pb : (0 : Int) ≤ (b : Int) + (i : Int) := by omega
      have ba : (a : Int) + (i : Int) < (d.size : Int) := by omega
      have bb : (b : Int) + (i : Int) < (d.size : Int) := by omega
      have ra : IntKind.i64.wrap ((a : Int) + (i : Int)) = (a : Int) + (i : Int) := by rw [IntKind.wrap_i64]; omega
      have rb : IntKind.i64.wrap ((b : Int) + (i : Int)) = (b : Int) + (i : Int) := by rw [IntKind.wrap_i64]; omega
      have S2 : Aside _ := swk_sw6 S1.out R (a + i) (b + i) (by omega) (by omega)
      obtain ⟨⟨x0, x1⟩, x3, x4⟩ := swk_cells S1.out R (by omega) (a + i) (by omega)
      obtain ⟨⟨y0, y1⟩, y3, y4⟩ := swk_cells S1.out R (by omega) (b + i) (by omega)
      obtain ⟨X, hX⟩ : ∃ X, X = dk[a + i]! := ⟨_, rfl⟩
      obtain ⟨Y, hY⟩ : ∃ Y, Y = dk[b + i]! := ⟨_, rfl⟩
      rw [← hX] at x0 x1
      rw [← hY] at y0 y1
      rw [← hX, ← hY] at S2
      obtain ⟨W', hW'⟩ : ∃ W', W' = sw6 wr blk (off + (a + i) * 2) (off + (b + i) * 2) X Y := ⟨_, rfl⟩
      rw [← hW'] at S2
      have EW := Lib.hid hW'
      clear S1 hX hY hW'
      go_wp2_with fail
      go_big_region
      change Exit.inBlock 1 _ Exit.normal _ (sw6 wr blk (off + (a + i) * 2) (off + (b + i) * 2) X Y)
      rw [← EW.out]
      clear x0 x1 x3 x4 y0 y1 y3 y4 EW
      go_wp2
      go_roundg (n - (i + 1))
      case measure => omega
      case rel => exact ⟨i + 1, swp dk (a + i) (b + i), by go_num, by omega, by omega, by rw [size_swp]; exact hds, S2, swp_sw HP.out (by omega) (by omega) (by omega) (by omega) hhs, srg_step HE.out hab hlt (by omega)⟩
    · obtain rfl : i = n := by omega
      go_wp2
      go_end0
      exact ⟨rfl, dk, S1.out, hds, HP.out, HE.out⟩
end Sb
end Go.Proofs.YthjflofcgdfekaaGreatDoor
namespace Go.Proofs.YthjflofcgdfekaaGreatDoor
open Go.RowKit Go.Sort Go.Proofs Go.Shelf
namespace Sb
theorem rot_more {d : Nat → Be} {d2 : Nat → Be} {m i j : Nat} (hj : 0 < j) (hij : j < i) (hi : i ≤ m) (h : ∀ x, d2 x = srg d (m - i) m j x) (x : Nat) : rot d2 (m - (i - j)) m (m + j) x = rot d (m - i) m (m + j) x := by
  unfold rot
  simp only [h]
  unfold srg
  (repeat' split) <;> first | omega | rfl | (congr 1; omega)
theorem rot_less {d : Nat → Be} {d2 : Nat → Be} {m i j : Nat} (h0 : 0 < i) (hij : i < j) (hi : i ≤ m) (h : ∀ x, d2 x = srg d (m - i) (m + j - i) i x) (x : Nat) : rot d2 (m - i) m (m + (j - i)) x = rot d (m - i) m (m + j) x := by
  unfold rot
  simp only [h]
  unfold srg
  (repeat' split) <;> first | omega | rfl | (congr 1; omega)
theorem rot_one {d : Nat → Be} {d2 : Nat → Be} {m i : Nat} (h0 : 0 < i) (hi : i ≤ m) (h : ∀ x, d2 x = srg d (m - i) m i x) (x : Nat) : d2 x = rot d (m - i) m (m + i) x := by
  unfold rot
  simp only [h]
  unfold srg
  (repeat' split) <;> first | omega | rfl | (congr 1; omega)
set_option maxHeartbeats 4000000 in
set_option maxRecDepth 1000000 in
theorem rotate_any (blk off cap a m b : Nat) (g : Nat) (cb : Array Value) (d0 d : Array Be) (w0 w : World)
    (R : RowK enc2 2 w0 blk off d0) (hs : d0.size = d.size) (S : SWK enc2 2 w0 blk off d w) (ham : a < m) (hmb : m < b) (hb : b ≤ d.size) (hsz : d.size < 4611686018427387904) :
    Calls Tryz.prog 227 #[.slice (some ⟨blk, off, none⟩) d.size cap, .int .i64 a, .int .i64 m, .int .i64 b, .func (.func g) #[] cb] w fun e w' => e = .returned (.tuple #[]) ∧ ∃ d', SWK enc2 2 w0 blk off d' w' ∧ d'.size = d.size ∧ PermIn a b d d' ∧ ∀ x, d'[x]! = rot (at_ d) a m b x := by
  have S0 : Aside (SWK enc2 2 w0 blk off d w) := S
  clear S
  go_enter Tryz.func227, Tryz.ntmps227
  go_wp2_with fail
  go_loopg [10, 11] (m - a + (b - m)) (fun kx s10 s11 wr => ∃ (i j : Nat) (dk : Array Be), s10 = .int .i64 i ∧ s11 = .int .i64 j ∧ 0 < i ∧ 0 < j ∧ i ≤ m - a ∧ j ≤ b - m ∧ i + j ≤ kx ∧ dk.size = d.size ∧ Aside (SWK enc2 2 w0 blk off dk wr) ∧ Hid (PermIn a b d dk) ∧ Hid (∀ x, rot (at_ dk) (m - i) m (m + j) x = rot (at_ d) a m b x))
  case atStart => exact ⟨m - a, b - m, d, by go_num, by go_num, by omega, by omega, by omega, by omega, by omega, rfl, S0, permIn_refl _ _ _, fun x => by rw [show m - (m - a) = a by omega, show m + (b - m) = b by omega]⟩
  case round =>
    clear S0
    obtain ⟨i, j, dk, rfl, rfl, hi0, hj0, hia, hjb, hkx, hds, S1, HP, HE⟩ := hrel
    have e1 : ((m - i : Nat) : Int) = (m : Int) - (i : Int) := by omega
    by_cases hij : i = j
    · subst hij
      have c := swapRange_any blk off cap (m - i) m i g cb d0 dk w0 wr R (by omega) S1.out (by omega) (by omega) (by omega) a b (by omega) (by omega) (by omega)
      rw [e1, hds] at c
      have C := Lib.hid c
      clear c S1
      go_wp2_with fail
      refine C.out.mono ?_
      rintro e w2 ⟨rfl, d2, s2, z2, p2, x2⟩
      have S2 : Aside _ := s2
      have P2 := Lib.hid p2
      have X2 := Lib.hid x2
      clear s2 p2 x2
      go_wp2
      go_end0
      exact ⟨rfl, d2, S2.out, by omega, permIn_trans _ _ _ _ _ HP.out P2.out, fun x => by rw [← HE.out]; exact rot_one (d := at_ dk) (d2 := at_ d2) hi0 (by omega) X2.out x⟩
    · have hne : ((i : Int) == (j : Int)) = false := by simpa using (by omega : (i : Int) ≠ (j : Int))
      by_cases hlt : j < i
      · have hlt' : (j : Int) < (i : Int) := by omega
        have c := swapRange_any blk off cap (m - i) m j g cb d0 dk w0 wr R (by omega) S1.out (by omega) (by omega) (by omega) a b (by omega) (by omega) (by omega)
        rw [e1, hds] at c
        have C := Lib.hid c
        have E2 : ((i - j : Nat) : Int) = (i : Int) - (j : Int) := by omega
        clear c S1 hij
        go_wp2_with fail
        refine C.out.mono ?_
        rintro e w2 ⟨rfl, d2, s2, z2, p2, x2⟩
        have S2 : Aside _ := s2
        have P2 := Lib.hid p2
        have X2 := Lib.hid x2
        clear s2 p2 x2
        go_wp2
        go_roundg (i - j + j)
        case measure => omega
        case rel => exact ⟨i - j, j, d2, by rw [E2], rfl, by omega, by omega, by omega, by omega, by omega, by omega, S2, permIn_trans _ _ _ _ _ HP.out P2.out, fun x => by rw [← HE.out]; exact rot_more (d := at_ dk) (d2 := at_ d2) hj0 hlt (by omega) X2.out x⟩
      · have hlt' : (i : Int) < (j : Int) := by omega
        have hd : decide ((j : Int) < (i : Int)) = false := by simp; omega
        have c := swapRange_any blk off cap (m - i) (m + j - i) i g cb d0 dk w0 wr R (by omega) S1.out (by omega) (by omega) (by omega) a b (by omega) (by omega) (by omega)
        rw [e1, hds, show ((m + j - i : Nat) : Int) = (m : Int) + (j : Int) - (i : Int) by omega] at c
        have C := Lib.hid c
        have E2 : ((j - i : Nat) : Int) = (j : Int) - (i : Int) := by omega
        clear c S1 hij hlt
        go_wp2_with fail
        refine C.out.mono ?_
        rintro e w2 ⟨rfl, d2, s2, z2, p2, x2⟩
        have S2 : Aside _ := s2
        have P2 := Lib.hid p2
        have X2 := Lib.hid x2
        clear s2 p2 x2
        go_wp2
        go_roundg (i + (j - i))
        case measure => omega
        case rel => exact ⟨i, j - i, d2, rfl, by rw [E2], by omega, by omega, by omega, by omega, by omega, by omega, S2, permIn_trans _ _ _ _ _ HP.out P2.out, fun x => by rw [← HE.out]; exact rot_less (d := at_ dk) (d2 := at_ d2) hi0 (by omega) (by omega) X2.out x⟩
end Sb
end Go.Proofs.YthjflofcgdfekaaGreatDoor
namespace Go.Proofs.YthjflofcgdfekaaGreatDoor
open Go.RowKit Go.Sort Go.Proofs Go.Shelf
namespace Sb
def Srt (d : Nat → Be) (a b : Nat) : Prop := ∀ i j, a ≤ i → i < j → j < b → LT (d j) (d i) = false
theorem srt_of {d : Array Be} (hT : Tied d) {a b : Nat} (hb : b ≤ d.size) (h : SortedIn (ltOf cf) a b d) : Srt (at_ d) a b := fun i j hi hij hj => by
  have h1 := h i j hi hij hj
  rw [ltcf] at h1
  have h2 := hT i j hij (by omega)
  unfold LT at_ at *
  simp only [decide_eq_false_iff_not] at *
  omega
theorem lt_asymm {x y : Be} (h : LT x y = true) : LT y x = false := by
  unfold LT at *
  simp only [decide_eq_true_iff, decide_eq_false_iff_not] at *
  omega
theorem le_trans_ {x y z : Be} (h : LT y x = false) (g : LT z y = false) : LT z x = false := swoLT.ntrans z y x g h
theorem lt_le {x y z : Be} (h : LT x y = true) (g : LT z y = false) : LT z x = false := le_trans_ (lt_asymm h) g
theorem le_refl_ (x : Be) : LT x x = false := swoLT.irrefl x
theorem lt_of_le {x y z : Be} (h : LT y x = true) (g : LT y z = false) : LT z x = true := by
  unfold LT at *
  simp only [decide_eq_true_iff, decide_eq_false_iff_not] at *
  omega
theorem lt_of_lt_le {x y z : Be} (h : LT y x = true) (g : LT z x = false) : LT y z = true := by
  unfold LT at *
  simp only [decide_eq_true_iff, decide_eq_false_iff_not] at *
  omega
theorem rot_tied {d dk : Array Be} {s m e : Nat} (hT : Tied d) (hs : dk.size = d.size) (hE : ∀ x, dk[x]! = rot (at_ d) s m e x) (h1 : s ≤ m) (h2 : m ≤ e) (h3 : e ≤ d.size) (hx : ∀ x y, s ≤ x → x < m → m ≤ y → y < e → LT (at_ d y) (at_ d x) = true) : Tied dk := by
  intro i j hij hj he
  rw [hs] at hj
  have e1 : at_ dk i = rot (at_ d) s m e i := hE i
  have e2 : at_ dk j = rot (at_ d) s m e j := hE j
  rw [e1, e2] at he ⊢
  have key : ∀ p q, p < q → q < d.size → (at_ d p).a = (at_ d q).a → (at_ d p).t < (at_ d q).t := hT
  unfold rot at he ⊢
  by_cases ci : s ≤ i ∧ i < e
  · rw [if_pos ci] at he ⊢
    by_cases cj : s ≤ j ∧ j < e
    · rw [if_pos cj] at he ⊢
      by_cases di : i < s + (e - m)
      · rw [if_pos di] at he ⊢
        by_cases dj : j < s + (e - m)
        · rw [if_pos dj] at he ⊢
          exact key _ _ (by omega) (by omega) he
        · rw [if_neg dj] at he
          have := tied_lt hT (i := j - (e - m)) (j := i + m - s) (by omega) (by omega) (hx _ _ (by omega) (by omega) (by omega) (by omega))
          omega
      · rw [if_neg di, if_neg (by omega)] at he
        rw [if_neg di, if_neg (by omega)]
        exact key _ _ (by omega) (by omega) he
    · rw [if_neg cj] at he ⊢
      split at he
      · rename_i di
        rw [if_pos di]
        exact key _ _ (by omega) hj he
      · rename_i di
        rw [if_neg di]
        exact key _ _ (by omega) hj he
  · rw [if_neg ci] at he ⊢
    by_cases cj : s ≤ j ∧ j < e
    · rw [if_pos cj] at he ⊢
      split at he
      · rename_i dj
        rw [if_pos dj]
        exact key _ _ (by omega) (by omega) he
      · rename_i dj
        rw [if_neg dj]
        exact key _ _ (by omega) (by omega) he
    · rw [if_neg cj] at he ⊢
      exact key _ _ hij hj he
theorem Srt.le {d : Nat → Be} {a b : Nat} (h : Srt d a b) {i j : Nat} (hi : a ≤ i) (hij : i ≤ j) (hj : j < b) : LT (d j) (d i) = false := by
  rcases Nat.lt_or_ge i j with g | g
  · exact h i j hi g hj
  · obtain rfl : i = j := by omega
    exact le_refl_ _
theorem merge_left {d d2 : Nat → Be} {a b i : Nat} (h : Srt d (a + 1) b) (h0 : a + 1 ≤ i) (hib : i ≤ b) (h1 : ∀ x, a + 1 ≤ x → x < i → LT (d x) (d a) = true) (h2 : ∀ x, i ≤ x → x < b → LT (d x) (d a) = false) (hd : ∀ x, d2 x = rot d a (a + 1) i x) : Srt d2 a b := by
  have e1 : ∀ x, a ≤ x → x + 1 < i → d2 x = d (x + 1) := fun x g1 g2 => by rw [hd]; unfold rot; rw [if_pos (by omega), if_pos (by omega)]; congr 1; omega
  have e2 : d2 (i - 1) = d a := by rw [hd]; unfold rot; rw [if_pos (by omega), if_neg (by omega)]; congr 1; omega
  have e3 : ∀ x, i ≤ x → d2 x = d x := fun x g => by rw [hd]; unfold rot; rw [if_neg (by omega)]
  intro x y hx hxy hy
  by_cases c1 : y + 1 < i
  · rw [e1 y (by omega) c1, e1 x hx (by omega)]
    exact h _ _ (by omega) (by omega) (by omega)
  · by_cases c2 : y < i
    · obtain rfl : y = i - 1 := by omega
      rw [e2, e1 x hx (by omega)]
      exact lt_asymm (h1 _ (by omega) (by omega))
    · rw [e3 y (by omega)]
      by_cases c3 : x + 1 < i
      · rw [e1 x hx c3]
        exact h.le (by omega) (by omega) hy
      · by_cases c4 : x < i
        · obtain rfl : x = i - 1 := by omega
          rw [e2]
          exact h2 _ (by omega) hy
        · rw [e3 x (by omega)]
          exact h _ _ (by omega) hxy hy
theorem merge_right {d d2 : Nat → Be} {a m i : Nat} (h : Srt d a m) (h0 : a ≤ i) (him : i ≤ m) (h1 : ∀ x, a ≤ x → x < i → LT (d m) (d x) = false) (h2 : ∀ x, i ≤ x → x < m → LT (d m) (d x) = true) (hd : ∀ x, d2 x = rot d i m (m + 1) x) : Srt d2 a (m + 1) := by
  have e1 : ∀ x, x < i → d2 x = d x := fun x g => by rw [hd]; unfold rot; rw [if_neg (by omega)]
  have e2 : d2 i = d m := by rw [hd]; unfold rot; rw [if_pos (by omega), if_pos (by omega)]; congr 1; omega
  have e3 : ∀ x, i < x → x ≤ m → d2 x = d (x - 1) := fun x g1 g2 => by rw [hd]; unfold rot; rw [if_pos (by omega), if_neg (by omega)]; congr 1; omega
  intro x y hx hxy hy
  by_cases c1 : y < i
  · rw [e1 y c1, e1 x (by omega)]
    exact h _ _ hx hxy (by omega)
  · by_cases c2 : y = i
    · subst c2
      rw [e2, e1 x hxy]
      exact h1 _ hx hxy
    · rw [e3 y (by omega) (by omega)]
      by_cases c3 : x < i
      · rw [e1 x c3]
        exact h.le hx (by omega) (by omega)
      · by_cases c4 : x = i
        · subst c4
          rw [e2]
          exact lt_asymm (h2 _ (by omega) (by omega))
        · rw [e3 x (by omega) (by omega)]
          exact h _ _ (by omega) (by omega) (by omega)
structure Cutat (d : Nat → Be) (a m b mid s0 r0 s : Nat) : Prop where
  am : a < m
  mb : m < b
  hmid : mid = (a + b) / 2
  hs : s0 ≤ s ∧ s ≤ r0
  start : (mid < m ∧ s0 = mid + m - b ∧ r0 = mid) ∨ (m ≤ mid ∧ s0 = a ∧ r0 = m)
  lo : ∀ c, s0 ≤ c → c < s → LT (d (mid + m - 1 - c)) (d c) = false
  hi : ∀ c, s ≤ c → c < r0 → LT (d (mid + m - 1 - c)) (d c) = true
variable {d d1 : Nat → Be} {a m b mid s0 r0 s : Nat}
theorem Cutat.places (h : Cutat d a m b mid s0 r0 s) : a ≤ s ∧ s ≤ m ∧ s ≤ mid ∧ mid ≤ mid + m - s ∧ m ≤ mid + m - s ∧ mid + m - s ≤ b ∧ a ≤ mid ∧ mid < b := by
  have := h.am
  have := h.mb
  have := h.hmid
  have := h.hs
  rcases h.start with ⟨_, _, _⟩ | ⟨_, _, _⟩ <;> omega
theorem Cutat.turned (h : Cutat d a m b mid s0 r0 s) (h1 : Srt d a m) (h2 : Srt d m b) (hd : ∀ x, d1 x = rot d s m (mid + m - s) x) :
    Srt d1 a s ∧ Srt d1 s mid ∧ Srt d1 mid (mid + m - s) ∧ Srt d1 (mid + m - s) b ∧ ∀ x y, a ≤ x → x < mid → mid ≤ y → y < b → LT (d1 y) (d1 x) = false := by
  obtain ⟨p1, p2, p3, p4, p5, p6, p7, p8⟩ := h.places
  obtain ⟨q1, q2⟩ := h.hs
  have am := h.am
  have mb := h.mb
  have e1 : ∀ x, x < s → d1 x = d x := fun x g => by rw [hd]; unfold rot; rw [if_neg (by omega)]
  have e2 : ∀ x, s ≤ x → x < mid → d1 x = d (x + m - s) := fun x g1 g2 => by rw [hd]; unfold rot; rw [if_pos (by omega), if_pos (by omega)]
  have e3 : ∀ x, mid ≤ x → x < mid + m - s → d1 x = d (x - (mid - s)) := fun x g1 g2 => by rw [hd]; unfold rot; rw [if_pos (by omega), if_neg (by omega)]; congr 1; omega
  have e4 : ∀ x, mid + m - s ≤ x → d1 x = d x := fun x g => by rw [hd]; unfold rot; rw [if_neg (by omega)]
  refine ⟨fun x y hx hxy hy => ?_, fun x y hx hxy hy => ?_, fun x y hx hxy hy => ?_, fun x y hx hxy hy => ?_, fun x y hx hxm hy hyb => ?_⟩
  · rw [e1 y hy, e1 x (by omega)]; exact h1 _ _ hx hxy (by omega)
  · rw [e2 y (by omega) hy, e2 x hx (by omega)]; exact h2 _ _ (by omega) (by omega) (by omega)
  · rw [e3 y (by omega) hy, e3 x hx (by omega)]; exact h1 _ _ (by omega) (by omega) (by omega)
  · rw [e4 y (by omega), e4 x hx]; exact h2 _ _ (by omega) hxy hy
  · by_cases cx : x < s
    · rw [e1 x cx]
      by_cases cy : y < mid + m - s
      · rw [e3 y hy cy]; exact h1 _ _ hx (by omega) (by omega)
      · rw [e4 y (by omega)]
        by_cases c0 : s0 < s
        · have g := h.lo (s - 1) (by omega) (by omega)
          rw [show mid + m - 1 - (s - 1) = mid + m - s by omega] at g
          have g1 := h1.le hx (show x ≤ s - 1 by omega) (by omega)
          have g2 := h2.le (show m ≤ mid + m - s by omega) (show mid + m - s ≤ y by omega) hyb
          exact le_trans_ (le_trans_ g1 g) g2
        · rcases h.start with ⟨_, _, _⟩ | ⟨_, _, _⟩ <;> omega
    · rw [e2 x (by omega) hxm]
      by_cases cy : y < mid + m - s
      · rw [e3 y hy cy]
        by_cases c0 : s < r0
        · have g := h.hi s (Nat.le_refl _) c0
          have g1 := h2.le (show m ≤ x + m - s by omega) (show x + m - s ≤ mid + m - 1 - s by omega) (by omega)
          have g2 := h1.le (show a ≤ s by omega) (show s ≤ y - (mid - s) by omega) (by omega)
          exact le_trans_ g1 (lt_le g g2)
        · rcases h.start with ⟨_, _, _⟩ | ⟨_, _, _⟩ <;> omega
      · rw [e4 y (by omega)]; exact h2 _ _ (by omega) (by omega) hyb
theorem Cutat.less (h : Cutat d a m b mid s0 r0 s) (h1 : Srt d a m) (h2 : Srt d m b) : ∀ x y, s ≤ x → x < m → m ≤ y → y < mid + m - s → LT (d y) (d x) = true := fun x y hx hxm hy hye => by
  obtain ⟨p1, p2, p3, p4, p5, p6, p7, p8⟩ := h.places
  have hr : s < r0 := by
    have := h.hs
    rcases h.start with ⟨_, _, _⟩ | ⟨_, _, _⟩ <;> omega
  have g := h.hi s (Nat.le_refl _) hr
  have g1 := h1.le p1 hx hxm
  have g2 := h2.le hy (show y ≤ mid + m - 1 - s by omega) (by omega)
  have k1 : LT (d (mid + m - 1 - s)) (d x) = true := lt_of_lt_le g g1
  exact lt_of_le k1 g2
theorem srt_join {d : Nat → Be} {a p b : Nat} (h1 : Srt d a p) (h2 : Srt d p b) (h3 : ∀ x y, a ≤ x → x < p → p ≤ y → y < b → LT (d y) (d x) = false) : Srt d a b := by
  intro x y hx hxy hy
  by_cases c1 : y < p
  · exact h1 _ _ hx hxy c1
  · by_cases c2 : x < p
    · exact h3 _ _ hx c2 (by omega) hy
    · exact h2 _ _ (by omega) hxy hy
end Sb
end Go.Proofs.YthjflofcgdfekaaGreatDoor
namespace Go.Proofs.YthjflofcgdfekaaGreatDoor
open Go.RowKit Go.Sort Go.Proofs Go.Shelf
namespace Sb
theorem swk_grown_cells {w0 W : World} {blk off : Nat} {d0 dk : Array Be} (S : SWK enc2 2 w0 blk off dk W) (R : RowK enc2 2 w0 blk off d0) (hs : dk.size = d0.size) (i : Nat) (hi : i < dk.size) :
    (∀ n os, (Go.Sort.grow (W.drewN n) os).cell? ⟨blk, off + i * 2, none⟩ = some (.int .i64 dk[i]!.a)) ∧ (∀ n os, (Go.Sort.grow (W.drewN n) os).cell? ⟨blk, off + i * 2 + 1, none⟩ = some (.int .i64 dk[i]!.c)) :=
  ⟨fun n os => (swk_cells (S.grown n os) R hs i hi).1.1, fun n os => (swk_cells (S.grown n os) R hs i hi).1.2⟩
theorem rot_next {d dk : Array Be} {a k : Nat} (h : ∀ x, dk[x]! = rot (at_ d) a (a + 1) (k + 1) x) (hk : a ≤ k) (hs : k + 1 < dk.size) (x : Nat) : (swp dk k (k + 1))[x]! = rot (at_ d) a (a + 1) (k + 1 + 1) x := by
  rw [swp_get dk (by omega) hs, h, h, h]
  unfold rot at_
  (repeat' split) <;> first | omega | rfl | (congr 1; omega)
set_option maxHeartbeats 8000000 in
set_option maxRecDepth 1000000 in
theorem symMerge_left (blk off cap a m b : Nat) (d0 d : Array Be) (w0 w : World)
    (R : RowK enc2 2 w0 blk off d0) (hs : d0.size = d.size) (S : SWK enc2 2 w0 blk off d w) (ham1 : a + 1 ≤ m) (ham2 : m ≤ a + 1) (hmb : a + 1 < b) (hb : b ≤ d.size) (hsz : d.size < 4611686018427387904) (hS : Srt (at_ d) (a + 1) b) (hT : Tied d) :
    Calls Tryz.prog 180 #[.slice (some ⟨blk, off, none⟩) d.size cap, .int .i64 a, .int .i64 m, .int .i64 b, .func (.func 109) #[] #[]] w fun e w' => e = .returned (.tuple #[]) ∧ ∃ d', SWK enc2 2 w0 blk off d' w' ∧ d'.size = d.size ∧ PermIn a b d d' ∧ Tied d' ∧ Srt (at_ d') a b := by
  have e57 := enter109
  have mixed : Tryz.prog.follows .mixedOrders = true := by kernel_rfl
  have S0 : Aside (SWK enc2 2 w0 blk off d w) := S
  have HS := Lib.hid hS
  have HTD := Lib.hid hT
  have g1 : ((m : Int) - (a : Int) == 1) = true := by simpa using (by omega : (m : Int) - (a : Int) = 1)
  clear S hS hT
  go_enter Tryz.func180, Tryz.ntmps180
  go_wp2_with fail
  go_loopg [10, 11] (b - a) (fun kx s10 s11 wr => ∃ (i j : Nat), s10 = .int .i64 i ∧ s11 = .int .i64 j ∧ a + 1 ≤ i ∧ i ≤ j ∧ j ≤ b ∧ j - i ≤ kx ∧ Aside (SWK enc2 2 w0 blk off d wr) ∧ Hid (∀ x, a + 1 ≤ x → x < i → LT (at_ d x) (at_ d a) = true) ∧ Hid (∀ x, j ≤ x → x < b → LT (at_ d x) (at_ d a) = false))
  case atStart => exact ⟨m, b, rfl, rfl, by omega, by omega, by omega, by omega, S0, fun x h1 h2 => by omega, fun x h1 h2 => by omega⟩
  case round =>
    clear S0
    obtain ⟨i, j, rfl, rfl, hai, hij, hjb, hkx, S1, H1, H2⟩ := hrel
    by_cases hlt : i < j
    · have hltz : (i : Int) < (j : Int) := by omega
      obtain ⟨x0, x1⟩ := swk_grown_cells S1.out R (by omega) ((i + j) / 2) (by omega)
      obtain ⟨y0, y1⟩ := swk_grown_cells S1.out R (by omega) a (by omega)
      obtain ⟨X, hX⟩ : ∃ X, X = d[(i + j) / 2]! := ⟨_, rfl⟩
      obtain ⟨Y, hY⟩ : ∃ Y, Y = d[a]! := ⟨_, rfl⟩
      rw [← hX] at x0 x1
      rw [← hY] at y0 y1
      have HX := Lib.hid hX
      have HY := Lib.hid hY
      have S2 : Aside (∀ n os, SWK enc2 2 w0 blk off d (Go.Sort.grow (wr.drewN n) os)) := fun n os => S1.out.grown n os
      have b1 : ((i : Int) + (j : Int)) / 2 < (d.size : Int) := by omega
      have p1 : (0 : Int) ≤ ((i : Int) + (j : Int)) / 2 := by omega
      have t1 : (((i : Int) + (j : Int)) / 2).toNat = (i + j) / 2 := by omega
      have b2 : (a : Int) < (d.size : Int) := by omega
      clear hX hY S1
      by_cases hlv : cf X Y < 0
      · go_wp2_with fail
        go_quiet_grown (first | (go_at_call 109; refine Calls.grown_of (lt23_any X Y _)))
        have S3 := S2.out nq osq
        have S4 : Aside _ := S3
        clear S2 S3 x0 x1 y0 y1
        go_wp2_with fail
        have R1 : Hid (∀ x, a + 1 ≤ x → x < (i + j) / 2 + 1 → LT (at_ d x) (at_ d a) = true) := fun x g1 g2 => by
          have hl : LT (at_ d ((i + j) / 2)) (at_ d a) = true := by unfold at_; rw [← HX.out, ← HY.out]; exact cmp_yes hlv
          rcases Nat.lt_or_ge x i with h | h
          · exact H1.out x g1 h
          · have g := HS.out.le (i := x) (j := (i + j) / 2) g1 (by omega) (by omega)
            by_cases hq : LT (at_ d x) (at_ d a) = true
            · exact hq
            · have := le_trans_ (by simpa using hq) g
              rw [hl] at this
              cases this
        go_roundg (j - ((i + j) / 2 + 1))
        case measure => omega
        case rel => exact ⟨(i + j) / 2 + 1, j, by go_num, rfl, by omega, by omega, by omega, by omega, S4, R1.out, H2.out⟩
      · have hdv : decide (cf X Y < 0) = false := by simpa using hlv
        clear hlv
        go_wp2_with fail
        go_quiet_grown (first | (go_at_call 109; refine Calls.grown_of (lt23_any X Y _)))
        have S3 := S2.out nq osq
        have S4 : Aside _ := S3
        clear S2 S3 x0 x1 y0 y1
        go_wp2_with fail
        go_roundg ((i + j) / 2 - i)
        case measure => omega
        case rel => exact ⟨i, (i + j) / 2, rfl, by go_num, by omega, by omega, by omega, by omega, S4, H1.out, fun x g1 g2 => by
          have hl : LT (at_ d ((i + j) / 2)) (at_ d a) = false := cmp_no HTD.out (by omega) (by omega) (by rw [← HX.out, ← HY.out]; exact hdv)
          have g := HS.out.le (i := (i + j) / 2) (j := x) (by omega) g1 g2
          exact le_trans_ hl g⟩
    · obtain rfl : i = j := by omega
      clear hlt
      go_wp2_with fail
      go_loopg [13] (i - a) (fun kx s13 wx => ∃ (k : Nat) (dk : Array Be), s13 = .int .i64 k ∧ a ≤ k ∧ k + 1 ≤ i ∧ i - k ≤ kx ∧ dk.size = d.size ∧ Aside (SWK enc2 2 w0 blk off dk wx) ∧ Hid (PermIn a b d dk) ∧ Hid (∀ x, dk[x]! = rot (at_ d) a (a + 1) (k + 1) x))
      case atStart => exact ⟨a, d, rfl, by omega, by omega, by omega, rfl, S1, permIn_refl _ _ _, fun x => by unfold rot; (repeat' split) <;> first | omega | rfl | (congr 1; omega)⟩
      case round =>
        clear S1
        obtain ⟨k, dk, rfl, hak, hki, hkx2, hds, S1, HP, HE⟩ := hrel
        by_cases hlt : k + 1 < i
        · have hltz : (k : Int) < (i : Int) - 1 := by omega
          have p1 : (0 : Int) ≤ (k : Int) + 1 := by omega
          have b1 : (k : Int) + 1 < (d.size : Int) := by omega
          have b2 : (k : Int) < (d.size : Int) := by omega
          have t1 : ((k : Int) + 1).toNat = k + 1 := by omega
          have r1 : IntKind.i64.wrap ((k : Int) + 1) = (k : Int) + 1 := by rw [IntKind.wrap_i64]; omega
          have S2 : Aside _ := swk_sw6 S1.out R k (k + 1) (by omega) (by omega)
          obtain ⟨⟨x0, x1⟩, x3, x4⟩ := swk_cells S1.out R (by omega) k (by omega)
          obtain ⟨⟨y0, y1⟩, y3, y4⟩ := swk_cells S1.out R (by omega) (k + 1) (by omega)
          obtain ⟨X, hX⟩ : ∃ X, X = dk[k]! := ⟨_, rfl⟩
          obtain ⟨Y, hY⟩ : ∃ Y, Y = dk[k + 1]! := ⟨_, rfl⟩
          rw [← hX] at x0 x1
          rw [← hY] at y0 y1
          rw [← hX, ← hY] at S2
          obtain ⟨W', hW'⟩ : ∃ W', W' = sw6 wr blk (off + k * 2) (off + (k + 1) * 2) X Y := ⟨_, rfl⟩
          rw [← hW'] at S2
          have EW := Lib.hid hW'
          clear S1 hX hY hW'
          go_wp2_with fail
          go_big_region
          change Exit.inBlock _ _ Exit.normal _ (sw6 wr blk (off + k * 2) (off + (k + 1) * 2) X Y)
          rw [← EW.out]
          clear x0 x1 x3 x4 y0 y1 y3 y4 EW
          go_wp2
          go_roundg (i - (k + 1))
          case measure => omega
          case rel => exact ⟨k + 1, swp dk k (k + 1), by go_num, by omega, by omega, by omega, by rw [size_swp]; exact hds, S2, swp_sw HP.out (by omega) (by omega) (by omega) (by omega) hb, rot_next HE.out hak (by omega)⟩
        · have hik : i = k + 1 := by omega
          have hd : decide ((k : Int) < (i : Int) - 1) = false := by simp; omega
          clear hlt
          go_wp2
          refine bodyPost_ret (results_none rfl _ _ _) rfl ?_
          exact ⟨rfl, dk, S1.out, hds, HP.out, rot_tied HTD.out hds HE.out (by omega) (by omega) (by omega) (fun x y h1 h2 h3 h4 => (show x = a by omega) ▸ H1.out y (by omega) (by omega)), merge_left (d := at_ d) (d2 := at_ dk) (i := i) HS.out (by omega) (by omega) H1.out H2.out (by rw [hik]; exact HE.out)⟩
end Sb
end Go.Proofs.YthjflofcgdfekaaGreatDoor
