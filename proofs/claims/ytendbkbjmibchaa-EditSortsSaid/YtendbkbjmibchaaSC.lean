/- Contracts: the library's swapRange and rotate at edits. -/
import Derived.Test.YtendbkbjmibchaaSB
import Derived.BigRegion
namespace Go.Proofs.Ytendbkbjmibchaa
open Go.RowKit Go.Sort Go.Proofs Go.Shelf

/-- swapRange, as numbers of places: n elements from a on, against those from b on. -/
def srg (d : Nat → Ed) (a b n x : Nat) : Ed := if a ≤ x ∧ x < a + n then d (x - a + b) else if b ≤ x ∧ x < b + n then d (x - b + a) else d x
/-- rotate: [a, m) and [m, b) change places. -/
def rot (d : Nat → Ed) (a m b x : Nat) : Ed := if a ≤ x ∧ x < b then (if x < a + (b - m) then d (x + m - a) else d (x - (b - m))) else d x
abbrev at_ (d : Array Ed) : Nat → Ed := fun x => d[x]!

theorem swk_cells {w0 W : World} {blk off : Nat} {d0 dk : Array Ed} (S : SWK enc3 3 w0 blk off dk W) (R : RowK enc3 3 w0 blk off d0) (hs : dk.size = d0.size) (i : Nat) (hi : i < dk.size) :
    (W.cell? ⟨blk, off + i * 3, none⟩ = some (.int .i64 dk[i]!.f) ∧ W.cell? ⟨blk, off + i * 3 + 1, none⟩ = some (.int .i64 dk[i]!.t) ∧ W.cell? ⟨blk, off + i * 3 + 2, none⟩ = some (.string dk[i]!.x)) ∧
      W.frozen? ⟨blk, off + i * 3, none⟩ = false ∧ W.frozen? ⟨blk, off + i * 3 + 1, none⟩ = false ∧ W.frozen? ⟨blk, off + i * 3 + 2, none⟩ = false := by
  have h := S.holds R.hblk R.hH hs
  have h0 := h.cell (c := 0) hi (by decide)
  have h1 := h.cell (c := 1) hi (by decide)
  have h2 := h.cell (c := 2) hi (by decide)
  exact ⟨⟨h0.1, h1.1, h2.1⟩, h0.2, h1.2, h2.2⟩

/-- The world behind an exchange. -/
def sw6 (w : World) (blk p q : Nat) (X Y : Ed) : World := ((((((w.setCell ⟨blk, p, none⟩ (.int .i64 Y.f)).setCell ⟨blk, p + 1, none⟩ (.int .i64 Y.t)).setCell ⟨blk, p + 2, none⟩ (.string Y.x)).setCell ⟨blk, q, none⟩ (.int .i64 X.f)).setCell ⟨blk, q + 1, none⟩ (.int .i64 X.t)).setCell ⟨blk, q + 2, none⟩ (.string X.x)).drew
theorem drew_set (w : World) (p : Addr) (v : Value) : (w.setCell p v).drew = w.drew.setCell p v := rfl
theorem swk_sw6 {w0 W : World} {blk off : Nat} {d0 dk : Array Ed} (S : SWK enc3 3 w0 blk off dk W) (R : RowK enc3 3 w0 blk off d0) (i j : Nat) (hi : i < dk.size) (hj : j < dk.size) :
    SWK enc3 3 w0 blk off (swp dk i j) (sw6 W blk (off + i * 3) (off + j * 3) dk[i]! dk[j]!) := by
  have h := S.swapped R i j hi hj
  have e : sw6 W blk (off + i * 3) (off + j * 3) dk[i]! dk[j]! = (W.drew.setCells blk (off + i * 3) (enc3 dk[j]!)).setCells blk (off + j * 3) (enc3 dk[i]!) := by
    unfold sw6 enc3
    simp only [drew_set, World.setCells]
  rw [e]
  exact h
theorem swp_sw {d dk : Array Ed} {lo hi i j : Nat} (h : PermIn lo hi d dk) (hi1 : lo ≤ i) (hi2 : i < hi) (hj1 : lo ≤ j) (hj2 : j < hi) (hh : hi ≤ d.size) : PermIn lo hi d (swp dk i j) :=
  permIn_trans _ _ _ _ _ h (swp_permIn dk lo hi i j hi1 hi2 hj1 hj2 (by rw [h.1]; exact hh))
theorem srg_step {d dk : Array Ed} {a b n i : Nat} (h : ∀ x, dk[x]! = srg (at_ d) a b i x) (hab : a + n ≤ b) (hi : i < n) (hb : b + n ≤ dk.size) (x : Nat) : (swp dk (a + i) (b + i))[x]! = srg (at_ d) a b (i + 1) x := by
  rw [swp_get dk (by omega) (by omega), h, h, h]
  unfold srg at_
  (repeat' split) <;> first | omega | rfl | (congr 1; omega)

set_option maxHeartbeats 4000000 in
set_option maxRecDepth 1000000 in
theorem swapRange_any (blk off cap a b n : Nat) (g : Nat) (cb : Array Value) (d0 d : Array Ed) (w0 w : World)
    (R : RowK enc3 3 w0 blk off d0) (hs : d0.size = d.size) (S : SWK enc3 3 w0 blk off d w) (hab : a + n ≤ b) (hb : b + n ≤ d.size) (hsz : d.size < 4611686018427387904) (lo hi : Nat) (hlo : lo ≤ a) (hhi : b + n ≤ hi) (hhs : hi ≤ d.size) :
    Calls Try.prog 76 #[.slice (some ⟨blk, off, none⟩) d.size cap, .int .i64 a, .int .i64 b, .int .i64 n, .func (.func g) #[] cb] w fun e w' => e = .returned (.tuple #[]) ∧ ∃ d', SWK enc3 3 w0 blk off d' w' ∧ d'.size = d.size ∧ PermIn lo hi d d' ∧ ∀ x, d'[x]! = srg (at_ d) a b n x := by
  have S0 : Aside (SWK enc3 3 w0 blk off d w) := S
  clear S
  go_enter Try.func76, Try.ntmps76
  go_wp2_with fail
  go_loopg [10] n (fun kx s10 wr => ∃ (i : Nat) (dk : Array Ed), s10 = .int .i64 i ∧ i ≤ n ∧ n - i ≤ kx ∧ dk.size = d.size ∧ Aside (SWK enc3 3 w0 blk off dk wr) ∧ Hid (PermIn lo hi d dk) ∧ Hid (∀ x, dk[x]! = srg (at_ d) a b i x))
  case atStart => exact ⟨0, d, rfl, by omega, by omega, rfl, S0, permIn_refl _ _ _, fun x => by unfold srg; rw [if_neg (by omega), if_neg (by omega)]⟩
  case round =>
    clear S0
    obtain ⟨i, dk, rfl, hin, hkx, hds, S1, HP, HE⟩ := hrel
    by_cases hlt : i < n
    · have h1 : (i : Int) < (n : Int) := by omega
      have ea : ((a : Int) + (i : Int)).toNat = a + i := by omega
      have eb : ((b : Int) + (i : Int)).toNat = b + i := by omega
      have pa : (0 : Int) ≤ (a : Int) + (i : Int) := by omega
      have pb : (0 : Int) ≤ (b : Int) + (i : Int) := by omega
      have ba : (a : Int) + (i : Int) < (d.size : Int) := by omega
      have bb : (b : Int) + (i : Int) < (d.size : Int) := by omega
      have ra : IntKind.i64.wrap ((a : Int) + (i : Int)) = (a : Int) + (i : Int) := by rw [IntKind.wrap_i64]; omega
      have rb : IntKind.i64.wrap ((b : Int) + (i : Int)) = (b : Int) + (i : Int) := by rw [IntKind.wrap_i64]; omega
      have S2 : Aside _ := swk_sw6 S1.out R (a + i) (b + i) (by omega) (by omega)
      obtain ⟨⟨x0, x1, x2⟩, x3, x4, x5⟩ := swk_cells S1.out R (by omega) (a + i) (by omega)
      obtain ⟨⟨y0, y1, y2⟩, y3, y4, y5⟩ := swk_cells S1.out R (by omega) (b + i) (by omega)
      obtain ⟨X, hX⟩ : ∃ X, X = dk[a + i]! := ⟨_, rfl⟩
      obtain ⟨Y, hY⟩ : ∃ Y, Y = dk[b + i]! := ⟨_, rfl⟩
      rw [← hX] at x0 x1 x2
      rw [← hY] at y0 y1 y2
      rw [← hX, ← hY] at S2
      obtain ⟨W', hW'⟩ : ∃ W', W' = sw6 wr blk (off + (a + i) * 3) (off + (b + i) * 3) X Y := ⟨_, rfl⟩
      rw [← hW'] at S2
      have EW := Lib.hid hW'
      clear S1 hX hY hW'
      go_wp2_with fail
      go_big_region
      change Exit.inBlock 1 _ Exit.normal _ (sw6 wr blk (off + (a + i) * 3) (off + (b + i) * 3) X Y)
      rw [← EW.out]
      clear x0 x1 x2 x3 x4 x5 y0 y1 y2 y3 y4 y5 EW
      go_wp2
      go_roundg (n - (i + 1))
      case measure => omega
      case rel => exact ⟨i + 1, swp dk (a + i) (b + i), by go_num, by omega, by omega, by rw [size_swp]; exact hds, S2, swp_sw HP.out (by omega) (by omega) (by omega) (by omega) hhs, srg_step HE.out hab hlt (by omega)⟩
    · obtain rfl : i = n := by omega
      go_wp2
      go_end0
      exact ⟨rfl, dk, S1.out, hds, HP.out, HE.out⟩
end Go.Proofs.Ytendbkbjmibchaa
