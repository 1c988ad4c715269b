/- Contracts: the library's symMerge at edits: one element ahead, one behind. -/
import Derived.Test.YtendbkbjmibchaaSE
import Derived.Shelf.SlSortCmp.QuietGrown
namespace Go.Proofs.Ytendbkbjmibchaa
open Go.RowKit Go.Sort Go.Proofs Go.Shelf

theorem swk_grown_cells {w0 W : World} {blk off : Nat} {d0 dk : Array Ed} (S : SWK enc3 3 w0 blk off dk W) (R : RowK enc3 3 w0 blk off d0) (hs : dk.size = d0.size) (i : Nat) (hi : i < dk.size) :
    (∀ n os, (Go.Sort.grow (W.drewN n) os).cell? ⟨blk, off + i * 3, none⟩ = some (.int .i64 dk[i]!.f)) ∧ (∀ n os, (Go.Sort.grow (W.drewN n) os).cell? ⟨blk, off + i * 3 + 1, none⟩ = some (.int .i64 dk[i]!.t)) ∧ (∀ n os, (Go.Sort.grow (W.drewN n) os).cell? ⟨blk, off + i * 3 + 2, none⟩ = some (.string dk[i]!.x)) :=
  ⟨fun n os => (swk_cells (S.grown n os) R hs i hi).1.1, fun n os => (swk_cells (S.grown n os) R hs i hi).1.2.1, fun n os => (swk_cells (S.grown n os) R hs i hi).1.2.2⟩

theorem rot_next {d dk : Array Ed} {a k : Nat} (h : ∀ x, dk[x]! = rot (at_ d) a (a + 1) (k + 1) x) (hk : a ≤ k) (hs : k + 1 < dk.size) (x : Nat) : (swp dk k (k + 1))[x]! = rot (at_ d) a (a + 1) (k + 1 + 1) x := by
  rw [swp_get dk (by omega) hs, h, h, h]
  unfold rot at_
  (repeat' split) <;> first | omega | rfl | (congr 1; omega)

set_option maxHeartbeats 8000000 in
set_option maxRecDepth 1000000 in
theorem symMerge_left (blk off cap a m b : Nat) (d0 d : Array Ed) (w0 w : World)
    (R : RowK enc3 3 w0 blk off d0) (hs : d0.size = d.size) (S : SWK enc3 3 w0 blk off d w) (ham1 : a + 1 ≤ m) (ham2 : m ≤ a + 1) (hmb : a + 1 < b) (hb : b ≤ d.size) (hsz : d.size < 4611686018427387904) (hS : Srt (at_ d) (a + 1) b) :
    Calls Try.prog 74 #[.slice (some ⟨blk, off, none⟩) d.size cap, .int .i64 a, .int .i64 m, .int .i64 b, .func (.func 57) #[] #[]] w fun e w' => e = .returned (.tuple #[]) ∧ ∃ d', SWK enc3 3 w0 blk off d' w' ∧ d'.size = d.size ∧ PermIn a b d d' ∧ Srt (at_ d') a b := by
  have e57 := enter57
  have mixed : Try.prog.follows .mixedOrders = true := by kernel_rfl
  have S0 : Aside (SWK enc3 3 w0 blk off d w) := S
  have HS := Lib.hid hS
  have g1 : ((m : Int) - (a : Int) == 1) = true := by simpa using (by omega : (m : Int) - (a : Int) = 1)
  clear S hS
  go_enter Try.func74, Try.ntmps74
  go_wp2_with fail
  go_loopg [10, 11] (b - a) (fun kx s10 s11 wr => ∃ (i j : Nat), s10 = .int .i64 i ∧ s11 = .int .i64 j ∧ a + 1 ≤ i ∧ i ≤ j ∧ j ≤ b ∧ j - i ≤ kx ∧ Aside (SWK enc3 3 w0 blk off d wr) ∧ Hid (∀ x, a + 1 ≤ x → x < i → LT (at_ d x) (at_ d a) = true) ∧ Hid (∀ x, j ≤ x → x < b → LT (at_ d x) (at_ d a) = false))
  case atStart => exact ⟨m, b, rfl, rfl, by omega, by omega, by omega, by omega, S0, fun x h1 h2 => by omega, fun x h1 h2 => by omega⟩
  case round =>
    clear S0
    obtain ⟨i, j, rfl, rfl, hai, hij, hjb, hkx, S1, H1, H2⟩ := hrel
    by_cases hlt : i < j
    · have hltz : (i : Int) < (j : Int) := by omega
      obtain ⟨x0, x1, x2⟩ := swk_grown_cells S1.out R (by omega) ((i + j) / 2) (by omega)
      obtain ⟨y0, y1, y2⟩ := swk_grown_cells S1.out R (by omega) a (by omega)
      obtain ⟨X, hX⟩ : ∃ X, X = d[(i + j) / 2]! := ⟨_, rfl⟩
      obtain ⟨Y, hY⟩ : ∃ Y, Y = d[a]! := ⟨_, rfl⟩
      rw [← hX] at x0 x1 x2
      rw [← hY] at y0 y1 y2
      have HX := Lib.hid hX
      have HY := Lib.hid hY
      have S2 : Aside (∀ n os, SWK enc3 3 w0 blk off d (Go.Sort.grow (wr.drewN n) os)) := fun n os => S1.out.grown n os
      have b1 : ((i : Int) + (j : Int)) / 2 < (d.size : Int) := by omega
      have p1 : (0 : Int) ≤ ((i : Int) + (j : Int)) / 2 := by omega
      have t1 : (((i : Int) + (j : Int)) / 2).toNat = (i + j) / 2 := by omega
      have b2 : (a : Int) < (d.size : Int) := by omega
      clear hX hY S1
      by_cases hlv : cf X Y < 0
      · go_wp2_with fail
        go_quiet_grown (first | (go_at_call 57; refine Calls.grown_of (lt57_any X Y _)))
        have S3 := S2.out nq osq
        have S4 : Aside _ := S3
        clear S2 S3 x0 x1 x2 y0 y1 y2
        go_wp2_with fail
        have R1 : Hid (∀ x, a + 1 ≤ x → x < (i + j) / 2 + 1 → LT (at_ d x) (at_ d a) = true) := fun x g1 g2 => by
          have hl : LT (at_ d ((i + j) / 2)) (at_ d a) = true := by unfold LT ltOf at_; rw [← HX.out, ← HY.out]; simpa using hlv
          rcases Nat.lt_or_ge x i with h | h
          · exact H1.out x g1 h
          · have g := HS.out.le (i := x) (j := (i + j) / 2) g1 (by omega) (by omega)
            by_cases hq : LT (at_ d x) (at_ d a) = true
            · exact hq
            · have := le_trans_ (by simpa using hq) g
              rw [hl] at this
              cases this
        go_roundg (j - ((i + j) / 2 + 1))
        case measure => omega
        case rel => exact ⟨(i + j) / 2 + 1, j, by go_num, rfl, by omega, by omega, by omega, by omega, S4, R1.out, H2.out⟩
      · have hdv : decide (cf X Y < 0) = false := by simpa using hlv
        clear hlv
        go_wp2_with fail
        go_quiet_grown (first | (go_at_call 57; refine Calls.grown_of (lt57_any X Y _)))
        have S3 := S2.out nq osq
        have S4 : Aside _ := S3
        clear S2 S3 x0 x1 x2 y0 y1 y2
        go_wp2_with fail
        go_roundg ((i + j) / 2 - i)
        case measure => omega
        case rel => exact ⟨i, (i + j) / 2, rfl, by go_num, by omega, by omega, by omega, by omega, S4, H1.out, fun x g1 g2 => by
          have hl : LT (at_ d ((i + j) / 2)) (at_ d a) = false := by unfold LT ltOf at_; rw [← HX.out, ← HY.out]; exact hdv
          have g := HS.out.le (i := (i + j) / 2) (j := x) (by omega) g1 g2
          exact le_trans_ hl g⟩
    · obtain rfl : i = j := by omega
      clear hlt
      go_wp2_with fail
      go_loopg [13] (i - a) (fun kx s13 wx => ∃ (k : Nat) (dk : Array Ed), s13 = .int .i64 k ∧ a ≤ k ∧ k + 1 ≤ i ∧ i - k ≤ kx ∧ dk.size = d.size ∧ Aside (SWK enc3 3 w0 blk off dk wx) ∧ Hid (PermIn a b d dk) ∧ Hid (∀ x, dk[x]! = rot (at_ d) a (a + 1) (k + 1) x))
      case atStart => exact ⟨a, d, rfl, by omega, by omega, by omega, rfl, S1, permIn_refl _ _ _, fun x => by unfold rot; (repeat' split) <;> first | omega | rfl | (congr 1; omega)⟩
      case round =>
        clear S1
        obtain ⟨k, dk, rfl, hak, hki, hkx2, hds, S1, HP, HE⟩ := hrel
        by_cases hlt : k + 1 < i
        · have hltz : (k : Int) < (i : Int) - 1 := by omega
          have p1 : (0 : Int) ≤ (k : Int) + 1 := by omega
          have b1 : (k : Int) + 1 < (d.size : Int) := by omega
          have b2 : (k : Int) < (d.size : Int) := by omega
          have t1 : ((k : Int) + 1).toNat = k + 1 := by omega
          have r1 : IntKind.i64.wrap ((k : Int) + 1) = (k : Int) + 1 := by rw [IntKind.wrap_i64]; omega
          have S2 : Aside _ := swk_sw6 S1.out R k (k + 1) (by omega) (by omega)
          obtain ⟨⟨x0, x1, x2⟩, x3, x4, x5⟩ := swk_cells S1.out R (by omega) k (by omega)
          obtain ⟨⟨y0, y1, y2⟩, y3, y4, y5⟩ := swk_cells S1.out R (by omega) (k + 1) (by omega)
          obtain ⟨X, hX⟩ : ∃ X, X = dk[k]! := ⟨_, rfl⟩
          obtain ⟨Y, hY⟩ : ∃ Y, Y = dk[k + 1]! := ⟨_, rfl⟩
          rw [← hX] at x0 x1 x2
          rw [← hY] at y0 y1 y2
          rw [← hX, ← hY] at S2
          obtain ⟨W', hW'⟩ : ∃ W', W' = sw6 wr blk (off + k * 3) (off + (k + 1) * 3) X Y := ⟨_, rfl⟩
          rw [← hW'] at S2
          have EW := Lib.hid hW'
          clear S1 hX hY hW'
          go_wp2_with fail
          go_big_region
          change Exit.inBlock _ _ Exit.normal _ (sw6 wr blk (off + k * 3) (off + (k + 1) * 3) X Y)
          rw [← EW.out]
          clear x0 x1 x2 x3 x4 x5 y0 y1 y2 y3 y4 y5 EW
          go_wp2
          go_roundg (i - (k + 1))
          case measure => omega
          case rel => exact ⟨k + 1, swp dk k (k + 1), by go_num, by omega, by omega, by omega, by rw [size_swp]; exact hds, S2, swp_sw HP.out (by omega) (by omega) (by omega) (by omega) hb, rot_next HE.out hak (by omega)⟩
        · have hik : i = k + 1 := by omega
          have hd : decide ((k : Int) < (i : Int) - 1) = false := by simp; omega
          clear hlt
          go_wp2
          refine bodyPost_ret (results_none rfl _ _ _) rfl ?_
          exact ⟨rfl, dk, S1.out, hds, HP.out, merge_left (d := at_ d) (d2 := at_ dk) (i := i) HS.out (by omega) (by omega) H1.out H2.out (by rw [hik]; exact HE.out)⟩
end Go.Proofs.Ytendbkbjmibchaa
