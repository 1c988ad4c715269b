import Derived.Test.YtnefnnoleeeedaaMAM
import Derived.Shelf.SlSortCmp.QuietGrown
import Derived.Deep.Cut
import Derived.Deep.CutRange
import Derived.Deep.LoopGhost
namespace Go.Proofs.Ytnefnnoleeeedaa
open Go.RowKit Go.Sort Go.Proofs Go.Shelf
namespace Sb
def Srt (d : Nat → Be) (a b : Nat) : Prop := ∀ i j, a ≤ i → i < j → j < b → LT (d j) (d i) = false
theorem srt_of {d : Array Be} (hT : Tied d) {a b : Nat} (hb : b ≤ d.size) (h : SortedIn (ltOf cf) a b d) : Srt (at_ d) a b := fun i j hi hij hj => by
  have h1 := h i j hi hij hj
  rw [ltcf] at h1
  have h2 := hT i j hij (by omega)
  unfold LT at_ at *
  simp only [decide_eq_false_iff_not] at *
  omega
theorem lt_asymm {x y : Be} (h : LT x y = true) : LT y x = false := by
  unfold LT at *
  simp only [decide_eq_true_iff, decide_eq_false_iff_not] at *
  omega
theorem le_trans_ {x y z : Be} (h : LT y x = false) (g : LT z y = false) : LT z x = false := swoLT.ntrans z y x g h
theorem lt_le {x y z : Be} (h : LT x y = true) (g : LT z y = false) : LT z x = false := le_trans_ (lt_asymm h) g
theorem le_refl_ (x : Be) : LT x x = false := swoLT.irrefl x
theorem lt_of_le {x y z : Be} (h : LT y x = true) (g : LT y z = false) : LT z x = true := by
  unfold LT at *
  simp only [decide_eq_true_iff, decide_eq_false_iff_not] at *
  omega
theorem lt_of_lt_le {x y z : Be} (h : LT y x = true) (g : LT z x = false) : LT y z = true := by
  unfold LT at *
  simp only [decide_eq_true_iff, decide_eq_false_iff_not] at *
  omega
theorem rot_tied {d dk : Array Be} {s m e : Nat} (hT : Tied d) (hs : dk.size = d.size) (hE : ∀ x, dk[x]! = rot (at_ d) s m e x) (h1 : s ≤ m) (h2 : m ≤ e) (h3 : e ≤ d.size) (hx : ∀ x y, s ≤ x → x < m → m ≤ y → y < e → LT (at_ d y) (at_ d x) = true) : Tied dk := by
  intro i j hij hj he
  rw [hs] at hj
  have e1 : at_ dk i = rot (at_ d) s m e i := hE i
  have e2 : at_ dk j = rot (at_ d) s m e j := hE j
  rw [e1, e2] at he ⊢
  have key : ∀ p q, p < q → q < d.size → (at_ d p).a = (at_ d q).a → (at_ d p).t < (at_ d q).t := hT
  unfold rot at he ⊢
  by_cases ci : s ≤ i ∧ i < e
  · rw [if_pos ci] at he ⊢
    by_cases cj : s ≤ j ∧ j < e
    · rw [if_pos cj] at he ⊢
      by_cases di : i < s + (e - m)
      · rw [if_pos di] at he ⊢
        by_cases dj : j < s + (e - m)
        · rw [if_pos dj] at he ⊢
          exact key _ _ (by omega) (by omega) he
        · rw [if_neg dj] at he
          have := tied_lt hT (i := j - (e - m)) (j := i + m - s) (by omega) (by omega) (hx _ _ (by omega) (by omega) (by omega) (by omega))
          omega
      · rw [if_neg di, if_neg (by omega)] at he
        rw [if_neg di, if_neg (by omega)]
        exact key _ _ (by omega) (by omega) he
    · rw [if_neg cj] at he ⊢
      split at he
      · rename_i di
        rw [if_pos di]
        exact key _ _ (by omega) hj he
      · rename_i di
        rw [if_neg di]
        exact key _ _ (by omega) hj he
  · rw [if_neg ci] at he ⊢
    by_cases cj : s ≤ j ∧ j < e
    · rw [if_pos cj] at he ⊢
      split at he
      · rename_i dj
        rw [if_pos dj]
        exact key _ _ (by omega) (by omega) he
      · rename_i dj
        rw [if_neg dj]
        exact key _ _ (by omega) (by omega) he
    · rw [if_neg cj] at he ⊢
      exact key _ _ hij hj he
theorem Srt.le {d : Nat → Be} {a b : Nat} (h : Srt d a b) {i j : Nat} (hi : a ≤ i) (hij : i ≤ j) (hj : j < b) : LT (d j) (d i) = false := by
  rcases Nat.lt_or_ge i j with g | g
  · exact h i j hi g hj
  · obtain rfl : i = j := by omega
    exact le_refl_ _
theorem merge_left {d d2 : Nat → Be} {a b i : Nat} (h : Srt d (a + 1) b) (h0 : a + 1 ≤ i) (hib : i ≤ b) (h1 : ∀ x, a + 1 ≤ x → x < i → LT (d x) (d a) = true) (h2 : ∀ x, i ≤ x → x < b → LT (d x) (d a) = false) (hd : ∀ x, d2 x = rot d a (a + 1) i x) : Srt d2 a b := by
  have e1 : ∀ x, a ≤ x → x + 1 < i → d2 x = d (x + 1) := fun x g1 g2 => by rw [hd]; unfold rot; rw [if_pos (by omega), if_pos (by omega)]; congr 1; omega
  have e2 : d2 (i - 1) = d a := by rw [hd]; unfold rot; rw [if_pos (by omega), if_neg (by omega)]; congr 1; omega
  have e3 : ∀ x, i ≤ x → d2 x = d x := fun x g => by rw [hd]; unfold rot; rw [if_neg (by omega)]
  intro x y hx hxy hy
  by_cases c1 : y + 1 < i
  · rw [e1 y (by omega) c1, e1 x hx (by omega)]
    exact h _ _ (by omega) (by omega) (by omega)
  · by_cases c2 : y < i
    · obtain rfl : y = i - 1 := by omega
      rw [e2, e1 x hx (by omega)]
      exact lt_asymm (h1 _ (by omega) (by omega))
    · rw [e3 y (by omega)]
      by_cases c3 : x + 1 < i
      · rw [e1 x hx c3]
        exact h.le (by omega) (by omega) hy
      · by_cases c4 : x < i
        · obtain rfl : x = i - 1 := by omega
          rw [e2]
          exact h2 _ (by omega) hy
        · rw [e3 x (by omega)]
          exact h _ _ (by omega) hxy hy
theorem merge_right {d d2 : Nat → Be} {a m i : Nat} (h : Srt d a m) (h0 : a ≤ i) (him : i ≤ m) (h1 : ∀ x, a ≤ x → x < i → LT (d m) (d x) = false) (h2 : ∀ x, i ≤ x → x < m → LT (d m) (d x) = true) (hd : ∀ x, d2 x = rot d i m (m + 1) x) : Srt d2 a (m + 1) := by
  have e1 : ∀ x, x < i → d2 x = d x := fun x g => by rw [hd]; unfold rot; rw [if_neg (by omega)]
  have e2 : d2 i = d m := by rw [hd]; unfold rot; rw [if_pos (by omega), if_pos (by omega)]; congr 1; omega
  have e3 : ∀ x, i < x → x ≤ m → d2 x = d (x - 1) := fun x g1 g2 => by rw [hd]; unfold rot; rw [if_pos (by omega), if_neg (by omega)]; congr 1; omega
  intro x y hx hxy hy
  by_cases c1 : y < i
  · rw [e1 y c1, e1 x (by omega)]
    exact h _ _ hx hxy (by omega)
  · by_cases c2 : y = i
    · subst c2
      rw [e2, e1 x hxy]
      exact h1 _ hx hxy
    · rw [e3 y (by omega) (by omega)]
      by_cases c3 : x < i
      · rw [e1 x c3]
        exact h.le hx (by omega) (by omega)
      · by_cases c4 : x = i
        · subst c4
          rw [e2]
          exact lt_asymm (h2 _ (by omega) (by omega))
        · rw [e3 x (by omega) (by omega)]
          exact h _ _ (by omega) (by omega) (by omega)
structure Cutat (d : Nat → Be) (a m b mid s0 r0 s : Nat) : Prop where
  am : a < m
  mb : m < b
  hmid : mid = (a + b) / 2
  hs : s0 ≤ s ∧ s ≤ r0
  start : (mid < m ∧ s0 = mid + m - b ∧ r0 = mid) ∨ (m ≤ mid ∧ s0 = a ∧ r0 = m)
  lo : ∀ c, s0 ≤ c → c < s → LT (d (mid + m - 1 - c)) (d c) = false
  hi : ∀ c, s ≤ c → c < r0 → LT (d (mid + m - 1 - c)) (d c) = true
variable {d d1 : Nat → Be} {a m b mid s0 r0 s : Nat}
theorem Cutat.places (h : Cutat d a m b mid s0 r0 s) : a ≤ s ∧ s ≤ m ∧ s ≤ mid ∧ mid ≤ mid + m - s ∧ m ≤ mid + m - s ∧ mid + m - s ≤ b ∧ a ≤ mid ∧ mid < b := by
  have := h.am
  have := h.mb
  have := h.hmid
  have := h.hs
  rcases h.start with ⟨_, _, _⟩ | ⟨_, _, _⟩ <;> omega
theorem Cutat.turned (h : Cutat d a m b mid s0 r0 s) (h1 : Srt d a m) (h2 : Srt d m b) (hd : ∀ x, d1 x = rot d s m (mid + m - s) x) :
    Srt d1 a s ∧ Srt d1 s mid ∧ Srt d1 mid (mid + m - s) ∧ Srt d1 (mid + m - s) b ∧ ∀ x y, a ≤ x → x < mid → mid ≤ y → y < b → LT (d1 y) (d1 x) = false := by
  obtain ⟨p1, p2, p3, p4, p5, p6, p7, p8⟩ := h.places
  obtain ⟨q1, q2⟩ := h.hs
  have am := h.am
  have mb := h.mb
  have e1 : ∀ x, x < s → d1 x = d x := fun x g => by rw [hd]; unfold rot; rw [if_neg (by omega)]
  have e2 : ∀ x, s ≤ x → x < mid → d1 x = d (x + m - s) := fun x g1 g2 => by rw [hd]; unfold rot; rw [if_pos (by omega), if_pos (by omega)]
  have e3 : ∀ x, mid ≤ x → x < mid + m - s → d1 x = d (x - (mid - s)) := fun x g1 g2 => by rw [hd]; unfold rot; rw [if_pos (by omega), if_neg (by omega)]; congr 1; omega
  have e4 : ∀ x, mid + m - s ≤ x → d1 x = d x := fun x g => by rw [hd]; unfold rot; rw [if_neg (by omega)]
  refine ⟨fun x y hx hxy hy => ?_, fun x y hx hxy hy => ?_, fun x y hx hxy hy => ?_, fun x y hx hxy hy => ?_, fun x y hx hxm hy hyb => ?_⟩
  · rw [e1 y hy, e1 x (by omega)]; exact h1 _ _ hx hxy (by omega)
  · rw [e2 y (by omega) hy, e2 x hx (by omega)]; exact h2 _ _ (by omega) (by omega) (by omega)
  · rw [e3 y (by omega) hy, e3 x hx (by omega)]; exact h1 _ _ (by omega) (by omega) (by omega)
  · rw [e4 y (by omega), e4 x hx]; exact h2 _ _ (by omega) hxy hy
  · by_cases cx : x < s
    · rw [e1 x cx]
      by_cases cy : y < mid + m - s
      · rw [e3 y hy cy]; exact h1 _ _ hx (by omega) (by omega)
      · rw [e4 y (by omega)]
        by_cases c0 : s0 < s
        · have g := h.lo (s - 1) (by omega) (by omega)
          rw [show mid + m - 1 - (s - 1) = mid + m - s by omega] at g
          have g1 := h1.le hx (show x ≤ s - 1 by omega) (by omega)
          have g2 := h2.le (show m ≤ mid + m - s by omega) (show mid + m - s ≤ y by omega) hyb
          exact le_trans_ (le_trans_ g1 g) g2
        · rcases h.start with ⟨_, _, _⟩ | ⟨_, _, _⟩ <;> omega
    · rw [e2 x (by omega) hxm]
      by_cases cy : y < mid + m - s
      · rw [e3 y hy cy]
        by_cases c0 : s < r0
        · have g := h.hi s (Nat.le_refl _) c0
          have g1 := h2.le (show m ≤ x + m - s by omega) (show x + m - s ≤ mid + m - 1 - s by omega) (by omega)
          have g2 := h1.le (show a ≤ s by omega) (show s ≤ y - (mid - s) by omega) (by omega)
          exact le_trans_ g1 (lt_le g g2)
        · rcases h.start with ⟨_, _, _⟩ | ⟨_, _, _⟩ <;> omega
      · rw [e4 y (by omega)]; exact h2 _ _ (by omega) (by omega) hyb
theorem Cutat.less (h : Cutat d a m b mid s0 r0 s) (h1 : Srt d a m) (h2 : Srt d m b) : ∀ x y, s ≤ x → x < m → m ≤ y → y < mid + m - s → LT (d y) (d x) = true := fun x y hx hxm hy hye => by
  obtain ⟨p1, p2, p3, p4, p5, p6, p7, p8⟩ := h.places
  have hr : s < r0 := by
    have := h.hs
    rcases h.start with ⟨_, _, _⟩ | ⟨_, _, _⟩ <;> omega
  have g := h.hi s (Nat.le_refl _) hr
  have g1 := h1.le p1 hx hxm
  have g2 := h2.le hy (show y ≤ mid + m - 1 - s by omega) (by omega)
  have k1 : LT (d (mid + m - 1 - s)) (d x) = true := lt_of_lt_le g g1
  exact lt_of_le k1 g2
theorem srt_join {d : Nat → Be} {a p b : Nat} (h1 : Srt d a p) (h2 : Srt d p b) (h3 : ∀ x y, a ≤ x → x < p → p ≤ y → y < b → LT (d y) (d x) = false) : Srt d a b := by
  intro x y hx hxy hy
  by_cases c1 : y < p
  · exact h1 _ _ hx hxy c1
  · by_cases c2 : x < p
    · exact h3 _ _ hx c2 (by omega) hy
    · exact h2 _ _ (by omega) hxy hy
end Sb
end Go.Proofs.Ytnefnnoleeeedaa
namespace Go.Proofs.Ytnefnnoleeeedaa
open Go.RowKit Go.Sort Go.Proofs Go.Shelf
namespace Sb
theorem swk_grown_cells {w0 W : World} {blk off : Nat} {d0 dk : Array Be} (S : SWK enc2 2 w0 blk off dk W) (R : RowK enc2 2 w0 blk off d0) (hs : dk.size = d0.size) (i : Nat) (hi : i < dk.size) :
    (∀ n os, (Go.Sort.grow (W.drewN n) os).cell? ⟨blk, off + i * 2, none⟩ = some (.int .i64 dk[i]!.a)) ∧ (∀ n os, (Go.Sort.grow (W.drewN n) os).cell? ⟨blk, off + i * 2 + 1, none⟩ = some (.int .i64 dk[i]!.c)) :=
  ⟨fun n os => (swk_cells (S.grown n os) R hs i hi).1.1, fun n os => (swk_cells (S.grown n os) R hs i hi).1.2⟩
theorem rot_next {d dk : Array Be} {a k : Nat} (h : ∀ x, dk[x]! = rot (at_ d) a (a + 1) (k + 1) x) (hk : a ≤ k) (hs : k + 1 < dk.size) (x : Nat) : (swp dk k (k + 1))[x]! = rot (at_ d) a (a + 1) (k + 1 + 1) x := by
  rw [swp_get dk (by omega) hs, h, h, h]
  unfold rot at_
  (repeat' split) <;> first | omega | rfl | (congr 1; omega)
set_option maxHeartbeats 8000000 in
set_option maxRecDepth 1000000 in
theorem symMerge_left (blk off cap a m b : Nat) (d0 d : Array Be) (w0 w : World)
    (R : RowK enc2 2 w0 blk off d0) (hs : d0.size = d.size) (S : SWK enc2 2 w0 blk off d w) (ham1 : a + 1 ≤ m) (ham2 : m ≤ a + 1) (hmb : a + 1 < b) (hb : b ≤ d.size) (hsz : d.size < 4611686018427387904) (hS : Srt (at_ d) (a + 1) b) (hT : Tied d) :
    Calls Try.prog 69 #[.slice (some ⟨blk, off, none⟩) d.size cap, .int .i64 a, .int .i64 m, .int .i64 b, .func (.func 23) #[] #[]] w fun e w' => e = .returned (.tuple #[]) ∧ ∃ d', SWK enc2 2 w0 blk off d' w' ∧ d'.size = d.size ∧ PermIn a b d d' ∧ Tied d' ∧ Srt (at_ d') a b := by
  have e57 := enter23
  have mixed : Try.prog.follows .mixedOrders = true := by kernel_rfl
  have S0 : Aside (SWK enc2 2 w0 blk off d w) := S
  have HS := Lib.hid hS
  have HTD := Lib.hid hT
  have g1 : ((m : Int) - (a : Int) == 1) = true := by simpa using (by omega : (m : Int) - (a : Int) = 1)
  clear S hS hT
  go_enter Try.func69, Try.ntmps69
  go_wp2_with fail
  go_loopg [10, 11] (b - a) (fun kx s10 s11 wr => ∃ (i j : Nat), s10 = .int .i64 i ∧ s11 = .int .i64 j ∧ a + 1 ≤ i ∧ i ≤ j ∧ j ≤ b ∧ j - i ≤ kx ∧ Aside (SWK enc2 2 w0 blk off d wr) ∧ Hid (∀ x, a + 1 ≤ x → x < i → LT (at_ d x) (at_ d a) = true) ∧ Hid (∀ x, j ≤ x → x < b → LT (at_ d x) (at_ d a) = false))
  case atStart => exact ⟨m, b, rfl, rfl, by omega, by omega, by omega, by omega, S0, fun x h1 h2 => by omega, fun x h1 h2 => by omega⟩
  case round =>
    clear S0
    obtain ⟨i, j, rfl, rfl, hai, hij, hjb, hkx, S1, H1, H2⟩ := hrel
    by_cases hlt : i < j
    · have hltz : (i : Int) < (j : Int) := by omega
      obtain ⟨x0, x1⟩ := swk_grown_cells S1.out R (by omega) ((i + j) / 2) (by omega)
      obtain ⟨y0, y1⟩ := swk_grown_cells S1.out R (by omega) a (by omega)
      obtain ⟨X, hX⟩ : ∃ X, X = d[(i + j) / 2]! := ⟨_, rfl⟩
      obtain ⟨Y, hY⟩ : ∃ Y, Y = d[a]! := ⟨_, rfl⟩
      rw [← hX] at x0 x1
      rw [← hY] at y0 y1
      have HX := Lib.hid hX
      have HY := Lib.hid hY
      have S2 : Aside (∀ n os, SWK enc2 2 w0 blk off d (Go.Sort.grow (wr.drewN n) os)) := fun n os => S1.out.grown n os
      have b1 : ((i : Int) + (j : Int)) / 2 < (d.size : Int) := by omega
      have p1 : (0 : Int) ≤ ((i : Int) + (j : Int)) / 2 := by omega
      have t1 : (((i : Int) + (j : Int)) / 2).toNat = (i + j) / 2 := by omega
      have b2 : (a : Int) < (d.size : Int) := by omega
      clear hX hY S1
      by_cases hlv : cf X Y < 0
      · go_wp2_with fail
        go_quiet_grown (first | (go_at_call 23; refine Calls.grown_of (lt23_any X Y _)))
        have S3 := S2.out nq osq
        have S4 : Aside _ := S3
        clear S2 S3 x0 x1 y0 y1
        go_wp2_with fail
        have R1 : Hid (∀ x, a + 1 ≤ x → x < (i + j) / 2 + 1 → LT (at_ d x) (at_ d a) = true) := fun x g1 g2 => by
          have hl : LT (at_ d ((i + j) / 2)) (at_ d a) = true := by unfold at_; rw [← HX.out, ← HY.out]; exact cmp_yes hlv
          rcases Nat.lt_or_ge x i with h | h
          · exact H1.out x g1 h
          · have g := HS.out.le (i := x) (j := (i + j) / 2) g1 (by omega) (by omega)
            by_cases hq : LT (at_ d x) (at_ d a) = true
            · exact hq
            · have := le_trans_ (by simpa using hq) g
              rw [hl] at this
              cases this
        go_roundg (j - ((i + j) / 2 + 1))
        case measure => omega
        case rel => exact ⟨(i + j) / 2 + 1, j, by go_num, rfl, by omega, by omega, by omega, by omega, S4, R1.out, H2.out⟩
      · have hdv : decide (cf X Y < 0) = false := by simpa using hlv
        clear hlv
        go_wp2_with fail
        go_quiet_grown (first | (go_at_call 23; refine Calls.grown_of (lt23_any X Y _)))
        have S3 := S2.out nq osq
        have S4 : Aside _ := S3
        clear S2 S3 x0 x1 y0 y1
        go_wp2_with fail
        go_roundg ((i + j) / 2 - i)
        case measure => omega
        case rel => exact ⟨i, (i + j) / 2, rfl, by go_num, by omega, by omega, by omega, by omega, S4, H1.out, fun x g1 g2 => by
          have hl : LT (at_ d ((i + j) / 2)) (at_ d a) = false := cmp_no HTD.out (by omega) (by omega) (by rw [← HX.out, ← HY.out]; exact hdv)
          have g := HS.out.le (i := (i + j) / 2) (j := x) (by omega) g1 g2
          exact le_trans_ hl g⟩
    · obtain rfl : i = j := by omega
      clear hlt
      go_wp2_with fail
      go_loopg [13] (i - a) (fun kx s13 wx => ∃ (k : Nat) (dk : Array Be), s13 = .int .i64 k ∧ a ≤ k ∧ k + 1 ≤ i ∧ i - k ≤ kx ∧ dk.size = d.size ∧ Aside (SWK enc2 2 w0 blk off dk wx) ∧ Hid (PermIn a b d dk) ∧ Hid (∀ x, dk[x]! = rot (at_ d) a (a + 1) (k + 1) x))
      case atStart => exact ⟨a, d, rfl, by omega, by omega, by omega, rfl, S1, permIn_refl _ _ _, fun x => by unfold rot; (repeat' split) <;> first | omega | rfl | (congr 1; omega)⟩
      case round =>
        clear S1
        obtain ⟨k, dk, rfl, hak, hki, hkx2, hds, S1, HP, HE⟩ := hrel
        by_cases hlt : k + 1 < i
        · have hltz : (k : Int) < (i : Int) - 1 := by omega
          have p1 : (0 : Int) ≤ (k : Int) + 1 := by omega
          have b1 : (k : Int) + 1 < (d.size : Int) := by omega
          have b2 : (k : Int) < (d.size : Int) := by omega
          have t1 : ((k : Int) + 1).toNat = k + 1 := by omega
          have r1 : IntKind.i64.wrap ((k : Int) + 1) = (k : Int) + 1 := by rw [IntKind.wrap_i64]; omega
          have S2 : Aside _ := swk_sw6 S1.out R k (k + 1) (by omega) (by omega)
          obtain ⟨⟨x0, x1⟩, x3, x4⟩ := swk_cells S1.out R (by omega) k (by omega)
          obtain ⟨⟨y0, y1⟩, y3, y4⟩ := swk_cells S1.out R (by omega) (k + 1) (by omega)
          obtain ⟨X, hX⟩ : ∃ X, X = dk[k]! := ⟨_, rfl⟩
          obtain ⟨Y, hY⟩ : ∃ Y, Y = dk[k + 1]! := ⟨_, rfl⟩
          rw [← hX] at x0 x1
          rw [← hY] at y0 y1
          rw [← hX, ← hY] at S2
          obtain ⟨W', hW'⟩ : ∃ W', W' = sw6 wr blk (off + k * 2) (off + (k + 1) * 2) X Y := ⟨_, rfl⟩
          rw [← hW'] at S2
          have EW := Lib.hid hW'
          clear S1 hX hY hW'
          go_wp2_with fail
          go_big_region
          change Exit.inBlock _ _ Exit.normal _ (sw6 wr blk (off + k * 2) (off + (k + 1) * 2) X Y)
          rw [← EW.out]
          clear x0 x1 x3 x4 y0 y1 y3 y4 EW
          go_wp2
          go_roundg (i - (k + 1))
          case measure => omega
          case rel => exact ⟨k + 1, swp dk k (k + 1), by go_num, by omega, by omega, by omega, by rw [size_swp]; exact hds, S2, swp_sw HP.out (by omega) (by omega) (by omega) (by omega) hb, rot_next HE.out hak (by omega)⟩
        · have hik : i = k + 1 := by omega
          have hd : decide ((k : Int) < (i : Int) - 1) = false := by simp; omega
          clear hlt
          go_wp2
          refine bodyPost_ret (results_none rfl _ _ _) rfl ?_
          exact ⟨rfl, dk, S1.out, hds, HP.out, rot_tied HTD.out hds HE.out (by omega) (by omega) (by omega) (fun x y h1 h2 h3 h4 => (show x = a by omega) ▸ H1.out y (by omega) (by omega)), merge_left (d := at_ d) (d2 := at_ dk) (i := i) HS.out (by omega) (by omega) H1.out H2.out (by rw [hik]; exact HE.out)⟩
end Sb
end Go.Proofs.Ytnefnnoleeeedaa
namespace Go.Proofs.Ytnefnnoleeeedaa
open Go.RowKit Go.Sort Go.Proofs Go.Shelf
namespace Sb
theorem rot_back {d dk : Array Be} {m k : Nat} (h : ∀ x, dk[x]! = rot (at_ d) k m (m + 1) x) (hk : 0 < k) (hkm : k ≤ m) (hs : m < dk.size) (x : Nat) : (swp dk k (k - 1))[x]! = rot (at_ d) (k - 1) m (m + 1) x := by
  rw [swp_get dk (by omega) (by omega), h, h, h]
  unfold rot at_
  (repeat' split) <;> first | omega | rfl | (congr 1; omega)
set_option maxHeartbeats 8000000 in
set_option maxRecDepth 1000000 in
theorem symMerge_right (blk off cap a m b : Nat) (d0 d : Array Be) (w0 w : World)
    (R : RowK enc2 2 w0 blk off d0) (hs : d0.size = d.size) (S : SWK enc2 2 w0 blk off d w) (ham : a + 2 ≤ m) (hmb1 : m + 1 ≤ b) (hmb2 : b ≤ m + 1) (hb : b ≤ d.size) (hsz : d.size < 4611686018427387904) (hS : Srt (at_ d) a m) (hT : Tied d) :
    Calls Try.prog 69 #[.slice (some ⟨blk, off, none⟩) d.size cap, .int .i64 a, .int .i64 m, .int .i64 b, .func (.func 23) #[] #[]] w fun e w' => e = .returned (.tuple #[]) ∧ ∃ d', SWK enc2 2 w0 blk off d' w' ∧ d'.size = d.size ∧ PermIn a b d d' ∧ Tied d' ∧ Srt (at_ d') a b := by
  have e57 := enter23
  have mixed : Try.prog.follows .mixedOrders = true := by kernel_rfl
  have S0 : Aside (SWK enc2 2 w0 blk off d w) := S
  have HS := Lib.hid hS
  have HTD := Lib.hid hT
  have g0 : ((m : Int) - (a : Int) == 1) = false := by simpa using (by omega : (m : Int) - (a : Int) ≠ 1)
  have g1 : ((b : Int) - (m : Int) == 1) = true := by simpa using (by omega : (b : Int) - (m : Int) = 1)
  clear S hS hT
  go_enter Try.func69, Try.ntmps69
  go_wp2_with fail
  go_loopg [14, 15] (m - a) (fun kx s14 s15 wr => ∃ (i j : Nat), s14 = .int .i64 i ∧ s15 = .int .i64 j ∧ a ≤ i ∧ i ≤ j ∧ j ≤ m ∧ j - i ≤ kx ∧ Aside (SWK enc2 2 w0 blk off d wr) ∧ Hid (∀ x, a ≤ x → x < i → LT (at_ d m) (at_ d x) = false) ∧ Hid (∀ x, j ≤ x → x < m → LT (at_ d m) (at_ d x) = true))
  case atStart => exact ⟨a, m, rfl, rfl, by omega, by omega, by omega, by omega, S0, fun x h1 h2 => by omega, fun x h1 h2 => by omega⟩
  case round =>
    clear S0
    obtain ⟨i, j, rfl, rfl, hai, hij, hjm, hkx, S1, H1, H2⟩ := hrel
    by_cases hlt : i < j
    · have hltz : (i : Int) < (j : Int) := by omega
      obtain ⟨x0, x1⟩ := swk_grown_cells S1.out R (by omega) m (by omega)
      obtain ⟨y0, y1⟩ := swk_grown_cells S1.out R (by omega) ((i + j) / 2) (by omega)
      obtain ⟨X, hX⟩ : ∃ X, X = d[m]! := ⟨_, rfl⟩
      obtain ⟨Y, hY⟩ : ∃ Y, Y = d[(i + j) / 2]! := ⟨_, rfl⟩
      rw [← hX] at x0 x1
      rw [← hY] at y0 y1
      have HX := Lib.hid hX
      have HY := Lib.hid hY
      have S2 : Aside (∀ n os, SWK enc2 2 w0 blk off d (Go.Sort.grow (wr.drewN n) os)) := fun n os => S1.out.grown n os
      have b1 : ((i : Int) + (j : Int)) / 2 < (d.size : Int) := by omega
      have p1 : (0 : Int) ≤ ((i : Int) + (j : Int)) / 2 := by omega
      have t1 : (((i : Int) + (j : Int)) / 2).toNat = (i + j) / 2 := by omega
      have b2 : (m : Int) < (d.size : Int) := by omega
      clear hX hY S1
      by_cases hlv : cf X Y < 0
      · go_wp2_with fail
        go_quiet_grown (first | (go_at_call 23; refine Calls.grown_of (lt23_any X Y _)))
        have S3 := S2.out nq osq
        have S4 : Aside _ := S3
        clear S2 S3 x0 x1 y0 y1
        go_wp2_with fail
        have R2 : Hid (∀ x, (i + j) / 2 ≤ x → x < m → LT (at_ d m) (at_ d x) = true) := fun x g1 g2 => by
          have hl : LT (at_ d m) (at_ d ((i + j) / 2)) = true := by unfold at_; rw [← HX.out, ← HY.out]; exact cmp_yes hlv
          have g := HS.out.le (i := (i + j) / 2) (j := x) (by omega) g1 g2
          by_cases hq : LT (at_ d m) (at_ d x) = true
          · exact hq
          · have := le_trans_ g (by simpa using hq)
            rw [hl] at this
            cases this
        go_roundg ((i + j) / 2 - i)
        case measure => omega
        case rel => exact ⟨i, (i + j) / 2, rfl, by go_num, by omega, by omega, by omega, by omega, S4, H1.out, R2.out⟩
      · have hdv : decide (cf X Y < 0) = false := by simpa using hlv
        clear hlv
        go_wp2_with fail
        go_quiet_grown (first | (go_at_call 23; refine Calls.grown_of (lt23_any X Y _)))
        have S3 := S2.out nq osq
        have S4 : Aside _ := S3
        clear S2 S3 x0 x1 y0 y1
        go_wp2_with fail
        have R1 : Hid (∀ x, a ≤ x → x < (i + j) / 2 + 1 → LT (at_ d m) (at_ d x) = false) := fun x g1 g2 => by
          have hl : LT (at_ d m) (at_ d ((i + j) / 2)) = false := cmp_no HTD.out (by omega) (by omega) (by rw [← HX.out, ← HY.out]; exact hdv)
          have g := HS.out.le (i := x) (j := (i + j) / 2) g1 (by omega) (by omega)
          exact le_trans_ g hl
        go_roundg (j - ((i + j) / 2 + 1))
        case measure => omega
        case rel => exact ⟨(i + j) / 2 + 1, j, by go_num, rfl, by omega, by omega, by omega, by omega, S4, R1.out, H2.out⟩
    · obtain rfl : i = j := by omega
      clear hlt
      go_wp2_with fail
      go_loopg [17] (m - i) (fun kx s17 wx => ∃ (k : Nat) (dk : Array Be), s17 = .int .i64 k ∧ i ≤ k ∧ k ≤ m ∧ k - i ≤ kx ∧ dk.size = d.size ∧ Aside (SWK enc2 2 w0 blk off dk wx) ∧ Hid (PermIn a b d dk) ∧ Hid (∀ x, dk[x]! = rot (at_ d) k m (m + 1) x))
      case atStart => exact ⟨m, d, rfl, by omega, by omega, by omega, rfl, S1, permIn_refl _ _ _, fun x => by unfold rot; (repeat' split) <;> first | omega | rfl | (congr 1; omega)⟩
      case round =>
        clear S1
        obtain ⟨k, dk, rfl, hik, hkm, hkx2, hds, S1, HP, HE⟩ := hrel
        by_cases hlt : i < k
        · have hltz : (i : Int) < (k : Int) := by omega
          have p1 : (0 : Int) ≤ (k : Int) - 1 := by omega
          have b1 : (k : Int) - 1 < (d.size : Int) := by omega
          have b2 : (k : Int) < (d.size : Int) := by omega
          have t1 : ((k : Int) - 1).toNat = k - 1 := by omega
          have r1 : IntKind.i64.wrap ((k : Int) - 1) = (k : Int) - 1 := by rw [IntKind.wrap_i64]; omega
          have S2 : Aside _ := swk_sw6 S1.out R k (k - 1) (by omega) (by omega)
          obtain ⟨⟨x0, x1⟩, x3, x4⟩ := swk_cells S1.out R (by omega) k (by omega)
          obtain ⟨⟨y0, y1⟩, y3, y4⟩ := swk_cells S1.out R (by omega) (k - 1) (by omega)
          obtain ⟨X, hX⟩ : ∃ X, X = dk[k]! := ⟨_, rfl⟩
          obtain ⟨Y, hY⟩ : ∃ Y, Y = dk[k - 1]! := ⟨_, rfl⟩
          rw [← hX] at x0 x1
          rw [← hY] at y0 y1
          rw [← hX, ← hY] at S2
          obtain ⟨W', hW'⟩ : ∃ W', W' = sw6 wr blk (off + k * 2) (off + (k - 1) * 2) X Y := ⟨_, rfl⟩
          rw [← hW'] at S2
          have EW := Lib.hid hW'
          have KK : ((k - 1 : Nat) : Int) = (k : Int) - 1 := by omega
          have HK := Lib.hid KK
          clear S1 hX hY hW' KK
          go_wp2_with fail
          go_big_region
          change Exit.inBlock _ _ Exit.normal _ (sw6 wr blk (off + k * 2) (off + (k - 1) * 2) X Y)
          rw [← EW.out]
          clear x0 x1 x3 x4 y0 y1 y3 y4 EW
          go_wp2
          go_roundg (k - 1 - i)
          case measure => omega
          case rel => exact ⟨k - 1, swp dk k (k - 1), by rw [HK.out], by omega, by omega, by omega, by rw [size_swp]; exact hds, S2, swp_sw HP.out (by omega) (by omega) (by omega) (by omega) hb, rot_back HE.out (by omega) hkm (by omega)⟩
        · have hle : (k : Int) ≤ (i : Int) := by omega
          have hik2 : Hid (i = k) := by unfold Hid; omega
          clear hlt
          go_wp2
          refine bodyPost_ret (results_none rfl _ _ _) rfl ?_
          refine ⟨rfl, dk, S1.out, hds, HP.out, rot_tied HTD.out hds HE.out (by omega) (by omega) (by omega) (fun x y h1 h2 h3 h4 => (show y = m by omega) ▸ H2.out x (by have := hik2.out; omega) h2), ?_⟩
          have hbm : b = m + 1 := by omega
          rw [hbm]
          exact merge_right (d := at_ d) (d2 := at_ dk) (i := i) HS.out (by omega) (by omega) H1.out H2.out (by rw [hik2.out]; exact HE.out)
end Sb
end Go.Proofs.Ytnefnnoleeeedaa
namespace Go.Proofs.Ytnefnnoleeeedaa
open Go.RowKit Go.Sort Go.Proofs Go.Shelf
namespace Sb
def Merges (blk off cap : Nat) (_d0 : Array Be) (w0 : World) (a m b : Nat) (d : Array Be) (w : World) : Prop :=
  Calls Try.prog 69 #[.slice (some ⟨blk, off, none⟩) d.size cap, .int .i64 a, .int .i64 m, .int .i64 b, .func (.func 23) #[] #[]] w fun e w' => e = .returned (.tuple #[]) ∧ ∃ d', SWK enc2 2 w0 blk off d' w' ∧ d'.size = d.size ∧ PermIn a b d d' ∧ Tied d' ∧ Srt (at_ d') a b
theorem rot_none {d : Nat → Be} {s m e : Nat} (h : ¬ (s < m ∧ m < e)) (hs : s ≤ m) (he : m ≤ e) (x : Nat) : d x = rot d s m e x := by
  unfold rot
  (repeat' split) <;> first | omega | rfl | (congr 1; omega)
theorem srt_keep {d1 d2 : Array Be} {lo hi a b : Nat} (h : PermIn lo hi d1 d2) (ho : b ≤ lo ∨ hi ≤ a) (g : Srt (at_ d1) a b) : Srt (at_ d2) a b := by
  intro x y hx hxy hy
  have e1 : at_ d2 x = at_ d1 x := h.2.1 x (by omega)
  have e2 : at_ d2 y = at_ d1 y := h.2.1 y (by omega)
  rw [e1, e2]
  exact g x y hx hxy hy
theorem join_all {d1 d2 d3 : Array Be} {a mid b : Nat} (_hm : a ≤ mid) (_hmb : mid ≤ b) (hb : b ≤ d1.size) (h2 : PermIn a mid d1 d2) (h3 : PermIn mid b d2 d3) (g2 : Srt (at_ d2) a mid) (g3 : Srt (at_ d3) mid b)
    (hx : ∀ x y, a ≤ x → x < mid → mid ≤ y → y < b → LT (at_ d1 y) (at_ d1 x) = false) : Srt (at_ d3) a b := by
  have hb2 : b ≤ d2.size := by rw [h2.1]; exact hb
  refine srt_join (srt_keep h3 (.inl (Nat.le_refl _)) g2) g3 fun x y h4 h5 h6 h7 => ?_
  have e1 : at_ d3 x = at_ d2 x := h3.2.1 x (by omega)
  rw [e1]
  refine permIn_all d2 d3 mid b (fun v => LT v (at_ d2 x) = false) hb2 h3 (fun y' h8 h9 => ?_) y h6 h7
  have e2 : d2[y']! = d1[y']! := h2.2.1 y' (by omega)
  show LT d2[y']! (at_ d2 x) = false
  rw [e2]
  exact permIn_all d1 d2 a mid (fun v => LT (at_ d1 y') v = false) (by omega) h2 (fun x' h10 h11 => hx x' y' h10 h11 h8 h9) x h4 h5
set_option maxHeartbeats 16000000 in
set_option maxRecDepth 1000000 in
theorem symMerge_mid (blk off cap N : Nat) (d0 : Array Be) (w0 : World) (R : RowK enc2 2 w0 blk off d0)
    (IH : ∀ (a m b : Nat) (d : Array Be) (w : World), Tied d → d0.size = d.size → SWK enc2 2 w0 blk off d w → a < m → m < b → b ≤ d.size → Srt (at_ d) a m → Srt (at_ d) m b → b - a ≤ N → Merges blk off cap d0 w0 a m b d w)
    (a m b : Nat) (d : Array Be) (w : World) (hT : Tied d) (hs : d0.size = d.size) (S : SWK enc2 2 w0 blk off d w) (ham : a + 2 ≤ m) (hmb : m + 2 ≤ b) (hb : b ≤ d.size) (hsz : d.size < 4611686018427387904) (hS1 : Srt (at_ d) a m) (hS2 : Srt (at_ d) m b) (hN : b - a ≤ N + 1) :
    Merges blk off cap d0 w0 a m b d w := by
  unfold Merges
  have e57 := enter23
  have mixed : Try.prog.follows .mixedOrders = true := by kernel_rfl
  have S0 : Aside (SWK enc2 2 w0 blk off d w) := S
  have HTD := Lib.hid hT
  have HS1 := Lib.hid hS1
  have HS2 := Lib.hid hS2
  have HI := Lib.hid IH
  have g0 : ((m : Int) - (a : Int) == 1) = false := by simpa using (by omega : (m : Int) - (a : Int) ≠ 1)
  have g1 : ((b : Int) - (m : Int) == 1) = false := by simpa using (by omega : (b : Int) - (m : Int) ≠ 1)
  obtain ⟨mid, hmid⟩ : ∃ mid, mid = (a + b) / 2 := ⟨_, rfl⟩
  have hm1 : 2 * mid ≤ a + b := by omega
  have hm2 : a + b ≤ 2 * mid + 1 := by omega
  have HM := Lib.hid hmid
  have M : ((a : Int) + (b : Int)) / 2 = (mid : Int) := by omega
  obtain ⟨s0, r0, hst⟩ : ∃ s0 r0 : Nat, (mid < m ∧ s0 = mid + m - b ∧ r0 = mid) ∨ (m ≤ mid ∧ s0 = a ∧ r0 = m) := by
    rcases Nat.lt_or_ge mid m with h | h
    · exact ⟨_, _, .inl ⟨h, rfl, rfl⟩⟩
    · exact ⟨_, _, .inr ⟨h, rfl, rfl⟩⟩
  have HT := Lib.hid hst
  have k1 : a ≤ s0 := by omega
  have k2 : s0 ≤ r0 := by omega
  have k3 : r0 ≤ m := by omega
  have k4 : r0 ≤ mid := by omega
  have k5 : mid + m ≤ s0 + b := by omega
  clear S hS1 hS2 IH hmid hst hT
  go_enter Try.func69, Try.ntmps69
  go_upto_if 140 with fail
  go_cut [20, 21] from 141 (fun s20 s21 wx => s20 = .int .i64 s0 ∧ s21 = .int .i64 r0 ∧ wx = w)
  case first =>
    rcases HT.out with ⟨h1, h2, h3⟩ | ⟨h1, h2, h3⟩
    · have h4 : (mid : Int) < (m : Int) := by omega
      have h5 : (mid : Int) + (m : Int) - (b : Int) = (s0 : Int) := by omega
      have h6 := Lib.hid h3
      clear h1 h2 h3
      go_wp2_with fail
      go_meet
      exact ⟨rfl, by rw [h6.out], rfl⟩
    · have h4 : (m : Int) ≤ (mid : Int) := by omega
      have h5 := Lib.hid h2
      have h6 := Lib.hid h3
      clear h1 h2 h3
      go_wp2_with fail
      go_meet
      exact ⟨by rw [h5.out], by rw [h6.out], rfl⟩
  case rest =>
  obtain ⟨rfl, rfl, rfl⟩ := hcut
  go_wp2_with fail
  go_loopg [20, 21] (r0 - s0) (fun kx s20 s21 wr => ∃ (i j : Nat), s20 = .int .i64 i ∧ s21 = .int .i64 j ∧ s0 ≤ i ∧ i ≤ j ∧ j ≤ r0 ∧ j - i ≤ kx ∧ Aside (SWK enc2 2 w0 blk off d wr) ∧ Hid (∀ c, s0 ≤ c → c < i → LT (at_ d (mid + m - 1 - c)) (at_ d c) = false) ∧ Hid (∀ c, j ≤ c → c < r0 → LT (at_ d (mid + m - 1 - c)) (at_ d c) = true))
  case atStart => exact ⟨s0, r0, rfl, rfl, by omega, by omega, by omega, by omega, S0, fun x h1 h2 => by omega, fun x h1 h2 => by omega⟩
  case round =>
    clear S0
    obtain ⟨i, j, rfl, rfl, hai, hij, hjm, hkx, S1, H1, H2⟩ := hrel
    by_cases hlt : i < j
    · have hltz : (i : Int) < (j : Int) := by omega
      obtain ⟨x0, x1⟩ := swk_grown_cells S1.out R (by omega) (mid + m - 1 - (i + j) / 2) (by omega)
      obtain ⟨y0, y1⟩ := swk_grown_cells S1.out R (by omega) ((i + j) / 2) (by omega)
      obtain ⟨X, hX⟩ : ∃ X, X = d[mid + m - 1 - (i + j) / 2]! := ⟨_, rfl⟩
      obtain ⟨Y, hY⟩ : ∃ Y, Y = d[(i + j) / 2]! := ⟨_, rfl⟩
      rw [← hX] at x0 x1
      rw [← hY] at y0 y1
      have HX := Lib.hid hX
      have HY := Lib.hid hY
      have S2 : Aside (∀ n os, SWK enc2 2 w0 blk off d (Go.Sort.grow (wr.drewN n) os)) := fun n os => S1.out.grown n os
      have b1 : ((i : Int) + (j : Int)) / 2 < (d.size : Int) := by omega
      have p1 : (0 : Int) ≤ ((i : Int) + (j : Int)) / 2 := by omega
      have t1 : (((i : Int) + (j : Int)) / 2).toNat = (i + j) / 2 := by omega
      obtain ⟨pc, hpc⟩ : ∃ pc, pc = mid + m - 1 - (i + j) / 2 := ⟨_, rfl⟩
      have b2 : (pc : Int) < (d.size : Int) := by omega
      have t2 : (mid : Int) + (m : Int) - 1 - ((i : Int) + (j : Int)) / 2 = (pc : Int) := by omega
      have r2 : IntKind.i64.wrap (pc : Int) = (pc : Int) := by rw [IntKind.wrap_i64]; omega
      rw [← hpc] at x0 x1
      clear hpc
      clear hX hY S1
      by_cases hlv : cf X Y < 0
      · go_wp2_with fail
        go_quiet_grown (first | (go_at_call 23; refine Calls.grown_of (lt23_any X Y _)))
        have S3 := S2.out nq osq
        have S4 : Aside _ := S3
        clear S2 S3 x0 x1 y0 y1 t1 t2 r2
        go_wp2_with fail
        have R2 : Hid (∀ c, (i + j) / 2 ≤ c → c < r0 → LT (at_ d (mid + m - 1 - c)) (at_ d c) = true) := fun c g1 g2 => by
          have hl : LT (at_ d (mid + m - 1 - (i + j) / 2)) (at_ d ((i + j) / 2)) = true := by unfold at_; rw [← HX.out, ← HY.out]; exact cmp_yes hlv
          by_cases hq : LT (at_ d (mid + m - 1 - c)) (at_ d c) = true
          · exact hq
          · have u1 := HS1.out.le (i := (i + j) / 2) (j := c) (by omega) g1 (by omega)
            have u2 := HS2.out.le (i := mid + m - 1 - c) (j := mid + m - 1 - (i + j) / 2) (by omega) (by omega) (by omega)
            have := le_trans_ (le_trans_ u1 (by simpa using hq)) u2
            rw [hl] at this
            cases this
        go_roundg ((i + j) / 2 - i)
        case measure => omega
        case rel => exact ⟨i, (i + j) / 2, rfl, by go_num, by omega, by omega, by omega, by omega, S4, H1.out, R2.out⟩
      · have hdv : decide (cf X Y < 0) = false := by simpa using hlv
        clear hlv
        go_wp2_with fail
        go_quiet_grown (first | (go_at_call 23; refine Calls.grown_of (lt23_any X Y _)))
        have S3 := S2.out nq osq
        have S4 : Aside _ := S3
        clear S2 S3 x0 x1 y0 y1 t1 t2 r2
        go_wp2_with fail
        have R1 : Hid (∀ c, s0 ≤ c → c < (i + j) / 2 + 1 → LT (at_ d (mid + m - 1 - c)) (at_ d c) = false) := fun c g1 g2 => by
          have hl : LT (at_ d (mid + m - 1 - (i + j) / 2)) (at_ d ((i + j) / 2)) = false := cmp_no HTD.out (by omega) (by omega) (by rw [← HX.out, ← HY.out]; exact hdv)
          have u1 := HS1.out.le (i := c) (j := (i + j) / 2) (by omega) (by omega) (by omega)
          have u2 := HS2.out.le (i := mid + m - 1 - (i + j) / 2) (j := mid + m - 1 - c) (by omega) (by omega) (by omega)
          exact le_trans_ (le_trans_ u1 hl) u2
        go_roundg (j - ((i + j) / 2 + 1))
        case measure => omega
        case rel => exact ⟨(i + j) / 2 + 1, j, by go_num, rfl, by omega, by omega, by omega, by omega, S4, R1.out, H2.out⟩
    · obtain rfl : i = j := by omega
      have hC : Cutat (at_ d) a m b mid s0 r0 i := ⟨by omega, by omega, HM.out, ⟨hai, hjm⟩, HT.out, H1.out, H2.out⟩
      obtain ⟨q1, q2, q3, q4, q5, q6, q7, q8⟩ := hC.places
      obtain ⟨e, he⟩ : ∃ e, e = mid + m - i := ⟨_, rfl⟩
      have E : (mid : Int) + (m : Int) - (i : Int) = (e : Int) := by omega
      have hC2 := fun (d1 : Array Be) (h : ∀ x, d1[x]! = rot (at_ d) i m e x) => hC.turned (d1 := at_ d1) HS1.out HS2.out (by rw [← he]; exact h)
      have hcl := hC.less HS1.out HS2.out
      have hei : i + e = mid + m := by omega
      rw [← he] at q4 q5 q6 hC2 hcl
      have HCL := Lib.hid hcl
      have HC := Lib.hid hC2
      clear hC2 hC hcl he hlt hai hij hjm H1 H2 k1 k2 k3 k4 k5
      go_upto_region 39 with fail
      obtain ⟨B, hB⟩ : ∃ B : Bool, B = decide (i < m ∧ m < e) := ⟨_, rfl⟩
      have HB := Lib.hid hB
      clear hB
      go_cut [185] from 178 (fun s185 wx => s185 = .bool B ∧ wx = wr)
      case first =>
        by_cases hp : i < m
        · have hp1 : (i : Int) < (m : Int) := by omega
          by_cases hq : m < e
          · have hq1 : (m : Int) < (e : Int) := by omega
            have hr : Hid (B = true) := by unfold Hid; rw [HB.out]; exact decide_eq_true ⟨hp, hq⟩
            clear hp hq
            go_wp2_with fail
            go_meet
            exact ⟨by rw [hr.out], rfl⟩
          · have hq1 : (e : Int) ≤ (m : Int) := by omega
            have hr : Hid (B = false) := by unfold Hid; rw [HB.out]; exact decide_eq_false (fun h => hq h.2)
            clear hp hq
            go_wp2_with fail
            go_meet
            exact ⟨by rw [hr.out]; simp; omega, rfl⟩
        · have hp1 : (m : Int) ≤ (i : Int) := by omega
          have hr : Hid (B = false) := by unfold Hid; rw [HB.out]; exact decide_eq_false (fun h => hp h.1)
          clear hp
          go_wp2_with fail
          go_meet
          exact ⟨by rw [hr.out], rfl⟩
      case rest =>
      obtain ⟨rfl, rfl⟩ := hcut
      go_upto_if 185 with fail
      go_cut [] from 186 (fun wx => ∃ d1 : Array Be, Aside (SWK enc2 2 w0 blk off d1 wx) ∧ d1.size = d.size ∧ Hid (PermIn a b d d1 ∧ Tied d1) ∧ Hid (∀ x, d1[x]! = rot (at_ d) i m e x))
      case first =>
        cases B
        · have hr := HB.out
          have hno : ¬ (i < m ∧ m < e) := by simpa using hr.symm
          have HN : Hid (∀ x, d[x]! = rot (at_ d) i m e x) := rot_none (d := at_ d) hno (by omega) (by omega)
          clear hr hno
          go_wp2_with fail
          go_meet
          exact ⟨d, S1, rfl, ⟨permIn_refl _ _ _, HTD.out⟩, HN.out⟩
        · have hr := HB.out
          obtain ⟨hp, hq⟩ : i < m ∧ m < e := by simpa using hr.symm
          clear hr
          go_wp2_with fail
          refine (rotate_any blk off cap i m e 23 #[] d0 d w0 _ R hs S1.out hp hq (by omega) hsz).mono ?_
          rintro en w2 ⟨rfl, d1, s2, z2, p2, x2⟩
          have S2 : Aside _ := s2
          have P2 : Hid (PermIn a b d d1 ∧ Tied d1) := ⟨permIn_mono d d1 i e a b q1 q6 hb p2, rot_tied HTD.out z2 x2 (by omega) (by omega) (by omega) HCL.out⟩
          have X2 := Lib.hid x2
          clear s2 p2 x2
          go_wp2_with fail
          go_meet
          exact ⟨d1, S2, z2, P2, X2⟩
      case rest =>
      obtain ⟨d1, S2, z1, P1T, X1⟩ := hcut
      have P1 := Lib.hid P1T.out.1
      have T1 := Lib.hid P1T.out.2
      clear P1T
      have HC1 := Lib.hid (HC.out d1 X1.out)
      clear S1 HB HC X1
      go_upto_region 41 with fail
      obtain ⟨B2, hB2⟩ : ∃ B : Bool, B = decide (a < i ∧ i < mid) := ⟨_, rfl⟩
      have HB2 := Lib.hid hB2
      clear hB2
      go_cut [199] from 192 (fun s199 wx => s199 = .bool B2 ∧ wx = wc)
      case first =>
        by_cases hp : a < i
        · have hp1 : (a : Int) < (i : Int) := by omega
          by_cases hq : i < mid
          · have hq1 : (i : Int) < (mid : Int) := by omega
            have hr : Hid (B2 = true) := by unfold Hid; rw [HB2.out]; exact decide_eq_true ⟨hp, hq⟩
            clear hp hq
            go_wp2_with fail
            go_meet
            exact ⟨by rw [hr.out], rfl⟩
          · have hq1 : (mid : Int) ≤ (i : Int) := by omega
            have hr : Hid (B2 = false) := by unfold Hid; rw [HB2.out]; exact decide_eq_false (fun h => hq h.2)
            clear hp hq
            go_wp2_with fail
            go_meet
            exact ⟨by rw [hr.out]; simp; omega, rfl⟩
        · have hp1 : (i : Int) ≤ (a : Int) := by omega
          have hr : Hid (B2 = false) := by unfold Hid; rw [HB2.out]; exact decide_eq_false (fun h => hp h.1)
          clear hp
          go_wp2_with fail
          go_meet
          exact ⟨by rw [hr.out], rfl⟩
      case rest =>
      obtain ⟨rfl, rfl⟩ := hcut
      go_upto_if 199 with fail
      go_cut [] from 200 (fun wx => ∃ d2 : Array Be, Aside (SWK enc2 2 w0 blk off d2 wx) ∧ d2.size = d.size ∧ Hid (PermIn a mid d1 d2 ∧ Tied d2) ∧ Hid (Srt (at_ d2) a mid))
      case first =>
        cases B2
        · have hr := HB2.out
          have hno : ¬ (a < i ∧ i < mid) := by simpa using hr.symm
          have HN : Hid (Srt (at_ d1) a mid) := by
            obtain ⟨v1, v2, _⟩ := HC1.out
            by_cases ha : a < i
            · obtain rfl : i = mid := by omega
              exact v1
            · obtain rfl : i = a := by omega
              exact v2
          clear hr hno
          go_wp2_with fail
          go_meet
          exact ⟨d1, S2, z1, ⟨permIn_refl _ _ _, T1.out⟩, HN.out⟩
        · have hr := HB2.out
          obtain ⟨hp, hq⟩ : a < i ∧ i < mid := by simpa using hr.symm
          have c := HI.out a i mid d1 _ T1.out (by omega) S2.out hp hq (by omega) HC1.out.1 HC1.out.2.1 (by omega)
          unfold Merges at c
          rw [z1] at c
          have C := Lib.hid c
          clear hr c
          go_wp2_with fail
          refine C.out.mono ?_
          rintro en w2 ⟨rfl, d2, s2, z2, p2, t2, x2⟩
          have S3 : Aside _ := s2
          have P2 : Hid (PermIn a mid d1 d2 ∧ Tied d2) := ⟨p2, t2⟩
          have X2 := Lib.hid x2
          clear s2 p2 t2 x2 C
          go_wp2_with fail
          go_meet
          exact ⟨d2, S3, by omega, P2, X2⟩
      case rest =>
      obtain ⟨d2, S3, z2, P2T, X2⟩ := hcut
      have P2 := Lib.hid P2T.out.1
      have T2 := Lib.hid P2T.out.2
      clear P2T
      clear S2 HB2
      go_upto_region 43 with fail
      obtain ⟨B3, hB3⟩ : ∃ B : Bool, B = decide (mid < e ∧ e < b) := ⟨_, rfl⟩
      have HB3 := Lib.hid hB3
      clear hB3
      go_cut [213] from 206 (fun s213 wx => s213 = .bool B3 ∧ wx = wc)
      case first =>
        by_cases hp : mid < e
        · have hp1 : (mid : Int) < (e : Int) := by omega
          by_cases hq : e < b
          · have hq1 : (e : Int) < (b : Int) := by omega
            have hr : Hid (B3 = true) := by unfold Hid; rw [HB3.out]; exact decide_eq_true ⟨hp, hq⟩
            clear hp hq
            go_wp2_with fail
            go_meet
            exact ⟨by rw [hr.out], rfl⟩
          · have hq1 : (b : Int) ≤ (e : Int) := by omega
            have hr : Hid (B3 = false) := by unfold Hid; rw [HB3.out]; exact decide_eq_false (fun h => hq h.2)
            clear hp hq
            go_wp2_with fail
            go_meet
            exact ⟨by rw [hr.out]; simp; omega, rfl⟩
        · have hp1 : (e : Int) ≤ (mid : Int) := by omega
          have hr : Hid (B3 = false) := by unfold Hid; rw [HB3.out]; exact decide_eq_false (fun h => hp h.1)
          clear hp
          go_wp2_with fail
          go_meet
          exact ⟨by rw [hr.out], rfl⟩
      case rest =>
      obtain ⟨rfl, rfl⟩ := hcut
      have v3 := srt_keep P2.out (a := mid) (b := e) (.inr (Nat.le_refl _)) HC1.out.2.2.1
      have v4 := srt_keep P2.out (a := e) (b := b) (.inr (by omega)) HC1.out.2.2.2.1
      have V3 := Lib.hid v3
      have V4 := Lib.hid v4
      clear v3 v4
      have P12 : Hid (PermIn a b d d2) := permIn_trans _ _ _ _ _ P1.out (permIn_mono d1 d2 a mid a b (Nat.le_refl _) (by omega) (by omega) P2.out)
      cases B3
      · have hr := HB3.out
        have hno : ¬ (mid < e ∧ e < b) := by simpa using hr.symm
        have HN : Hid (Srt (at_ d2) mid b) := by
          by_cases ha : mid < e
          · obtain rfl : e = b := by omega
            exact V3.out
          · obtain rfl : e = mid := by omega
            exact V4.out
        have HF : Hid (Srt (at_ d2) a b) := join_all (d1 := d1) (d2 := d2) (d3 := d2) q7 (Nat.le_of_lt q8) (by omega) P2.out (permIn_refl _ _ _) X2.out HN.out HC1.out.2.2.2.2
        clear hr hno
        go_wp2_with fail
        go_end0
        exact ⟨rfl, d2, S3.out, z2, P12.out, T2.out, HF.out⟩
      · have hr := HB3.out
        obtain ⟨hp, hq⟩ : mid < e ∧ e < b := by simpa using hr.symm
        have c := HI.out mid e b d2 _ T2.out (by omega) S3.out hp hq (by omega) V3.out V4.out (by omega)
        unfold Merges at c
        rw [z2] at c
        have C := Lib.hid c
        clear hr c
        go_wp2_with fail
        refine C.out.mono ?_
        rintro en w2 ⟨rfl, d3, s2, z3, p3, t3, x3⟩
        have T3 := Lib.hid t3
        have S4 : Aside _ := s2
        have P3 : Hid (PermIn a b d d3) := permIn_trans _ _ _ _ _ P12.out (permIn_mono d2 d3 mid b a b q7 (Nat.le_refl _) (by omega) p3)
        have HF : Hid (Srt (at_ d3) a b) := join_all (d1 := d1) (d2 := d2) (d3 := d3) q7 (Nat.le_of_lt q8) (by omega) P2.out p3 X2.out x3 HC1.out.2.2.2.2
        clear s2 p3 t3 x3 C
        go_wp2_with fail
        go_end0
        exact ⟨rfl, d3, S4.out, by omega, P3.out, T3.out, HF.out⟩
theorem symMerge_any (blk off cap : Nat) (d0 : Array Be) (w0 : World) (R : RowK enc2 2 w0 blk off d0) (hsz : d0.size < 4611686018427387904) :
    ∀ (N a m b : Nat) (d : Array Be) (w : World), Tied d → d0.size = d.size → SWK enc2 2 w0 blk off d w → a < m → m < b → b ≤ d.size → Srt (at_ d) a m → Srt (at_ d) m b → b - a ≤ N → Merges blk off cap d0 w0 a m b d w
  | 0, a, m, b, d, w, _, _, _, h1, h2, _, _, _, hN => by omega
  | N + 1, a, m, b, d, w, hT, hs, S, h1, h2, hb, g1, g2, hN => by
    by_cases c1 : m = a + 1
    · subst c1
      exact symMerge_left blk off cap a _ b d0 d w0 w R hs S (by omega) (by omega) h2 hb (by omega) g2 hT
    · by_cases c2 : b = m + 1
      · exact symMerge_right blk off cap a m b d0 d w0 w R hs S (by omega) (by omega) (by omega) hb (by omega) g1 hT
      · exact symMerge_mid blk off cap N d0 w0 R (fun a m b d w => symMerge_any blk off cap d0 w0 R hsz N a m b d w) a m b d w hT hs S (by omega) (by omega) hb (by omega) g1 g2 hN
end Sb
end Go.Proofs.Ytnefnnoleeeedaa
namespace Go.Proofs.Ytnefnnoleeeedaa
open Go.RowKit Go.Sort Go.Proofs Go.Shelf
namespace Sb
theorem ins_any (blk off cap a b : Nat) (d0 d : Array Be) (w0 w : World) (R : RowK enc2 2 w0 blk off d0) (hs : d0.size = d.size) (S : SWK enc2 2 w0 blk off d w) (hab : a ≤ b) (hb : b ≤ d.size) (hsz : d.size < 4611686018427387904) (hT : Tied d) :
    Calls Try.prog 68 #[.slice (some ⟨blk, off, none⟩) d.size cap, .int .i64 a, .int .i64 b, .func (.func 23) #[] #[]] w fun e w' => e = .returned (.tuple #[]) ∧ ∃ d', SWK enc2 2 w0 blk off d' w' ∧ d'.size = d.size ∧ PermIn a b d d' ∧ Tied d' ∧ Srt (at_ d') a b := by
  have h := insertionSort_holds swocf d a b hab hb
  have hT2 : Tied (insertionSort (ltOf cf) d a b) := insOuter_tied a b b (a + 1) d (by omega) hb hT
  have c := AnyQ.insertionSortCmpFunc ins20 2 Try.isAgg50 Try.sizeOf50 enc2 enc2_len enc2_one cf 23 #[] blk off cap a b d w enter23 (cmpLays23 blk off d.size w) (S.holds R.hblk R.hH hs.symm) (S.lt R.hblk) hab hb hsz
  change Calls Try.prog 68 _ _ _ at c
  refine c.mono ?_
  rintro e w' ⟨rfl, n, os, rfl⟩
  exact ⟨rfl, _, S.on R.hblk n _ os h.1.1, h.1.1, h.1, hT2, srt_of hT2 (by rw [h.1.1]; exact hb) h.2⟩
theorem Srt.less {d : Nat → Be} {a b b' : Nat} (h : Srt d a b) (hb : b' ≤ b) : Srt d a b' := fun x y hx hxy hy => h x y hx hxy (by omega)
theorem srt_void {d : Nat → Be} {a b : Nat} (h : b ≤ a) : Srt d a b := fun x y hx hxy hy => by omega
def Bl (d : Nat → Be) (bs k : Nat) : Prop := ∀ t, t < k → Srt d (t * bs) ((t + 1) * bs)
def Br (d : Nat → Be) (bs a n : Nat) : Prop := ∀ t, Srt d (a + t * bs) (min (a + (t + 1) * bs) n)
theorem bl_next {d : Nat → Be} {bs k : Nat} (h : Bl d bs k) (g : Srt d (k * bs) ((k + 1) * bs)) : Bl d bs (k + 1) := fun t ht => by
  rcases Nat.lt_or_ge t k with c | c
  · exact h t c
  · obtain rfl : t = k := by omega
    exact g
theorem bl_keep {d1 d2 : Array Be} {lo hi bs k : Nat} (h : PermIn lo hi d1 d2) (hk : k * bs ≤ lo) (g : Bl (at_ d1) bs k) : Bl (at_ d2) bs k := fun t ht => by
  have : (t + 1) * bs ≤ k * bs := Nat.mul_le_mul_right _ ht
  exact srt_keep h (.inl (by omega)) (g t ht)
theorem br_all {d : Nat → Be} {bs k n : Nat} (h : Bl d bs k) (g : Srt d (k * bs) n) (hn : n ≤ k * bs + bs) : Br d bs 0 n := fun t => by
  rw [Nat.zero_add, Nat.zero_add]
  rcases Nat.lt_or_ge t k with c | c
  · exact (h t c).less (Nat.min_le_left _ _)
  · rcases Nat.lt_or_ge k t with c2 | c2
    · have : (k + 1) * bs ≤ t * bs := Nat.mul_le_mul_right _ c2
      rw [Nat.add_mul, Nat.one_mul] at this
      exact srt_void (by have := Nat.min_le_right ((t + 1) * bs) n; omega)
    · obtain rfl : t = k := by omega
      exact g.less (Nat.min_le_right _ _)
theorem br_two {d : Nat → Be} {bs a n : Nat} (h : Br d bs a n) : Srt d a (min (a + bs) n) ∧ Srt d (a + bs) (min (a + 2 * bs) n) := by
  have h0 := h 0
  have h1 := h 1
  rw [Nat.zero_mul, Nat.add_zero, Nat.zero_add, Nat.one_mul] at h0
  rw [Nat.one_mul, show 1 + 1 = 2 from rfl] at h1
  exact ⟨h0, h1⟩
theorem br_keep {d1 d2 : Array Be} {lo bs a n : Nat} (h : PermIn lo (a + 2 * bs) d1 d2) (g : Br (at_ d1) bs a n) : Br (at_ d2) bs (a + 2 * bs) n := fun t => by
  have := g (t + 2)
  rw [Nat.add_mul, show t + 2 + 1 = (t + 1) + 2 from rfl, Nat.add_mul (t + 1)] at this
  refine srt_keep h (.inr (by omega)) ?_
  rw [show a + 2 * bs + t * bs = a + (t * bs + 2 * bs) by omega, show a + 2 * bs + (t + 1) * bs = a + ((t + 1) * bs + 2 * bs) by omega]
  exact this
set_option maxHeartbeats 16000000 in
set_option maxRecDepth 1000000 in
theorem stable_any (blk off cap : Nat) (d0 d : Array Be) (w0 w : World) (R : RowK enc2 2 w0 blk off d0) (hs : d0.size = d.size) (S : SWK enc2 2 w0 blk off d w) (hsz : d.size ≤ 1000000) (hT : Tied d) :
    Calls Try.prog 47 #[.slice (some ⟨blk, off, none⟩) d.size cap, .int .i64 d.size, .func (.func 23) #[] #[]] w fun e w' => e = .returned (.tuple #[]) ∧ ∃ d', SWK enc2 2 w0 blk off d' w' ∧ d'.size = d.size ∧ PermIn 0 d.size d d' ∧ Tied d' ∧ Srt (at_ d') 0 d.size := by
  have S0 : Aside (SWK enc2 2 w0 blk off d w) := S
  obtain ⟨n, hn⟩ : ∃ n, n = d.size := ⟨_, rfl⟩
  have HN := Lib.hid hn
  have HTD := Lib.hid hT
  rw [← hn] at hsz ⊢
  have hsz0 : Hid (d0.size < 4611686018427387904) := by unfold Hid; omega
  have hs0 : Hid (d0.size = n) := by unfold Hid; omega
  clear S hs hn hT
  go_enter Try.func47, Try.ntmps47
  go_wp2_with fail
  go_loopg [7, 8] n (fun kx s7 s8 wr => ∃ (k a b : Nat) (dk : Array Be), s7 = .int .i64 a ∧ s8 = .int .i64 b ∧ a + 20 ≤ b ∧ b ≤ a + 20 ∧ Hid (a = k * 20) ∧ a ≤ n ∧ n - a ≤ kx ∧ Aside (SWK enc2 2 w0 blk off dk wr) ∧ Hid (dk.size = n) ∧ Hid (PermIn 0 n d dk ∧ Tied dk) ∧ Hid (Bl (at_ dk) 20 k))
  case atStart => exact ⟨0, 0, 20, d, rfl, rfl, by omega, by omega, by unfold Hid; omega, by omega, by omega, S0, HN.out.symm, ⟨permIn_refl _ _ _, HTD.out⟩, fun t ht => by omega⟩
  case round =>
    clear S0
    obtain ⟨k, a, b, dk, rfl, rfl, hb1, hb2, hak, han, hkx, S1, Z1, P1, B1⟩ := hrel
    by_cases hlt : b ≤ n
    · have hltz : (b : Int) ≤ (n : Int) := by omega
      have c := ins_any blk off cap a b d0 dk w0 wr R (by rw [hs0.out, Z1.out]) S1.out (by omega) (by rw [Z1.out]; exact hlt) (by rw [Z1.out]; omega) P1.out.2
      rw [Z1.out] at c
      have C := Lib.hid c
      clear c S1
      go_wp2_with fail
      refine C.out.mono ?_
      rintro en w2 ⟨rfl, d2, s2, z2, p2, t2', x2⟩
      have S2 : Aside _ := s2
      have Z2 := Lib.hid z2
      have P2 : Hid (PermIn 0 n d d2 ∧ Tied d2) := (fun h => ⟨permIn_trans _ _ _ _ _ P1.out.1 h, t2'⟩) (permIn_mono dk d2 a b 0 n (Nat.zero_le _) hlt (by rw [Z1.out]; exact Nat.le_refl _) p2)
      have B2 : Hid (Bl (at_ d2) 20 (k + 1)) := bl_next (bl_keep p2 (by rw [← hak.out]; exact Nat.le_refl _) B1.out) (by
        have e1 : k * 20 = a := hak.out.symm
        have e2 : (k + 1) * 20 = b := by omega
        rw [e1, e2]; exact x2)
      have A2 : Hid (b = (k + 1) * 20) := by unfold Hid; have := hak.out; omega
      clear s2 z2 p2 t2' x2 C
      go_wp2_with fail
      go_roundg (n - b)
      case measure => omega
      case rel => exact ⟨k + 1, b, b + 20, d2, rfl, by go_num, by omega, by omega, A2.out, hlt, by omega, S2, Z2.out, P2.out, B2.out⟩
    · have hltz : (n : Int) < (b : Int) := by omega
      have c := ins_any blk off cap a n d0 dk w0 wr R (by rw [hs0.out, Z1.out]) S1.out (by omega) (by rw [Z1.out]; exact Nat.le_refl _) (by rw [Z1.out]; omega) P1.out.2
      rw [Z1.out] at c
      have C := Lib.hid c
      clear c S1 hlt
      go_wp2_with fail
      refine C.out.mono ?_
      rintro en w2 ⟨rfl, d2, s2, z2, p2, t2', x2⟩
      have S2 : Aside _ := s2
      have Z2 := Lib.hid z2
      have P2 : Hid (PermIn 0 n d d2 ∧ Tied d2) := (fun h => ⟨permIn_trans _ _ _ _ _ P1.out.1 h, t2'⟩) (permIn_mono dk d2 a n 0 n (Nat.zero_le _) (Nat.le_refl _) (by rw [Z1.out]; exact Nat.le_refl _) p2)
      have B2 : Hid (Br (at_ d2) 20 0 n) := br_all (k := k) (bl_keep p2 (by rw [← hak.out]; exact Nat.le_refl _) B1.out) (by rw [← hak.out]; exact x2) (by rw [← hak.out]; omega)
      clear s2 z2 p2 t2' x2 C P1 B1 Z1 hak hb1 hb2 hltz hkx han
      go_wp2_with fail
      go_loopg [6] n (fun kx s6 wr => ∃ (bs : Nat) (dk : Array Be), s6 = .int .i64 bs ∧ 0 < bs ∧ bs ≤ 4000000 ∧ n - bs ≤ kx ∧ Aside (SWK enc2 2 w0 blk off dk wr) ∧ Hid (dk.size = n) ∧ Hid (PermIn 0 n d dk ∧ Tied dk) ∧ Hid (Br (at_ dk) bs 0 n))
      case atStart => exact ⟨20, d2, rfl, by omega, by omega, by omega, S2, Z2.out, P2.out, B2.out⟩
      case round =>
        clear S2 Z2 P2 B2
        obtain ⟨bs, dk, rfl, hbs0, hbs1, hkx, S1, Z1, P1, B1⟩ := hrel
        by_cases hlt : bs < n
        · have hltz : (bs : Int) < (n : Int) := by omega
          obtain ⟨cc, hcc⟩ : ∃ cc, cc = 2 * bs := ⟨_, rfl⟩
          have E1 : (2 : Int) * (bs : Int) = (cc : Int) := by omega
          have E2 : (bs : Int) * 2 = (cc : Int) := by omega
          have hc1 : bs < cc := by omega
          have hc2 : cc ≤ 2000000 := by omega
          have HCC := Lib.hid hcc
          clear hcc
          go_wp2_with fail
          go_loopg [7, 8] n (fun kx s7 s8 wx => ∃ (k a b : Nat) (dj : Array Be), s7 = .int .i64 a ∧ s8 = .int .i64 b ∧ a + cc ≤ b ∧ b ≤ a + cc ∧ Hid (a = k * cc) ∧ a ≤ n ∧ n - a ≤ kx ∧ Aside (SWK enc2 2 w0 blk off dj wx) ∧ Hid (dj.size = n) ∧ Hid (PermIn 0 n d dj ∧ Tied dj) ∧ Hid (Bl (at_ dj) cc k) ∧ Hid (Br (at_ dj) bs a n))
          case atStart => exact ⟨0, 0, cc, dk, rfl, rfl, by omega, by omega, by unfold Hid; omega, by omega, by omega, S1, Z1.out, P1.out, fun t ht => by omega, B1.out⟩
          case round =>
            clear S1 Z1 P1 B1
            obtain ⟨k, a, b, dj, rfl, rfl, hb1, hb2, hak, han, hkx2, S1, Z1, P1, B1, Q1⟩ := hrel
            obtain ⟨t1, t2⟩ := br_two Q1.out
            obtain ⟨m, hm⟩ : ∃ m, m = a + bs := ⟨_, rfl⟩
            have EM : (a : Int) + (bs : Int) = (m : Int) := by omega
            have hma : a < m := by omega
            have hmb : m < b := by omega
            have hcm : Hid (a + 2 * bs = b) := by unfold Hid; have := HCC.out; omega
            rw [← hm] at t1 t2
            have T1 := Lib.hid t1
            have T2 := Lib.hid t2
            clear hm t1 t2
            by_cases hlt2 : b ≤ n
            · have hltz2 : (b : Int) ≤ (n : Int) := by omega
              have c := symMerge_any blk off cap d0 w0 R hsz0.out (b - a) a m b dj wr P1.out.2 (by rw [hs0.out, Z1.out]) S1.out hma hmb (by rw [Z1.out]; exact hlt2) (T1.out.less (by omega)) (T2.out.less (by have := hcm.out; omega)) (Nat.le_refl _)
              unfold Merges at c
              rw [Z1.out] at c
              have C := Lib.hid c
              clear c S1
              go_wp2_with fail
              refine C.out.mono ?_
              rintro en w3 ⟨rfl, d3, s3, z3, p3, t3', x3⟩
              have S3 : Aside _ := s3
              have Z3 := Lib.hid z3
              have P3 : Hid (PermIn 0 n d d3 ∧ Tied d3) := (fun h => ⟨permIn_trans _ _ _ _ _ P1.out.1 h, t3'⟩) (permIn_mono dj d3 a b 0 n (Nat.zero_le _) hlt2 (by rw [Z1.out]; exact Nat.le_refl _) p3)
              have e2 : (k + 1) * cc = b := by rw [Nat.add_mul, Nat.one_mul, ← hak.out]; omega
              have B3 : Hid (Bl (at_ d3) cc (k + 1)) := bl_next (bl_keep p3 (by rw [← hak.out]; exact Nat.le_refl _) B1.out) (by
                rw [← hak.out, e2]; exact x3)
              have Q3 : Hid (Br (at_ d3) bs b n) := by
                have := br_keep (lo := a) (by rw [hcm.out]; exact p3) Q1.out
                rw [hcm.out] at this
                exact this
              have A3 := Lib.hid e2
              clear s3 z3 p3 t3' x3 C e2
              go_wp2_with fail
              go_roundg (n - b)
              case measure => omega
              case rel => exact ⟨k + 1, b, b + cc, d3, rfl, by go_num, by omega, by omega, A3.out.symm, hlt2, by omega, S3, Z3.out, P3.out, B3.out, Q3.out⟩
            · have hltz2 : (n : Int) < (b : Int) := by omega
              clear hlt2
              by_cases hmn : m < n
              · have hmz : (m : Int) < (n : Int) := by omega
                have c := symMerge_any blk off cap d0 w0 R hsz0.out (n - a) a m n dj wr P1.out.2 (by rw [hs0.out, Z1.out]) S1.out hma hmn (by rw [Z1.out]; exact Nat.le_refl _) (T1.out.less (by omega)) (T2.out.less (by have := hcm.out; omega)) (Nat.le_refl _)
                unfold Merges at c
                rw [Z1.out] at c
                have C := Lib.hid c
                clear c S1
                go_wp2_with fail
                refine C.out.mono ?_
                rintro en w3 ⟨rfl, d3, s3, z3, p3, t3', x3⟩
                have S3 : Aside _ := s3
                have Z3 := Lib.hid z3
                have P3 : Hid (PermIn 0 n d d3 ∧ Tied d3) := (fun h => ⟨permIn_trans _ _ _ _ _ P1.out.1 h, t3'⟩) (permIn_mono dj d3 a n 0 n (Nat.zero_le _) (Nat.le_refl _) (by rw [Z1.out]; exact Nat.le_refl _) p3)
                have B3 : Hid (Br (at_ d3) cc 0 n) := br_all (k := k) (bl_keep p3 (by rw [← hak.out]; exact Nat.le_refl _) B1.out) (by rw [← hak.out]; exact x3) (by rw [← hak.out]; omega)
                clear s3 z3 p3 t3' x3 C
                go_wp2_with fail
                go_roundg (n - cc)
                case measure => omega
                case rel => exact ⟨cc, d3, rfl, by omega, by omega, by omega, S3, Z3.out, P3.out, B3.out⟩
              · have hmz : (n : Int) ≤ (m : Int) := by omega
                have B3 : Hid (Br (at_ dj) cc 0 n) := br_all (k := k) B1.out (by rw [← hak.out]; exact T1.out.less (by omega)) (by rw [← hak.out]; omega)
                clear hmn
                go_wp2_with fail
                go_roundg (n - cc)
                case measure => omega
                case rel => exact ⟨cc, dj, rfl, by omega, by omega, by omega, S1, Z1.out, P1.out, B3.out⟩
        · have hltz : (n : Int) ≤ (bs : Int) := by omega
          have HF : Hid (Srt (at_ dk) 0 n) := (br_two B1.out).1.less (by omega)
          clear hlt
          go_wp2_with fail
          go_end0
          exact ⟨rfl, dk, S1.out, Z1.out, P1.out.1, P1.out.2, HF.out⟩
end Sb
end Go.Proofs.Ytnefnnoleeeedaa
namespace Go.Proofs.Ytnefnnoleeeedaa
open Go.RowKit Go.Sort Go.Proofs Go.Shelf
namespace Sb
open Sc
def tagF : Nat → List (Int × Int) → List Be
  | _, [] => []
  | i, x :: l => ⟨x.1, x.2, i⟩ :: tagF (i + 1) l
theorem tagF_len : ∀ (i : Nat) (l : List (Int × Int)), (tagF i l).length = l.length
  | _, [] => rfl
  | i, _ :: l => by rw [tagF, List.length_cons, List.length_cons, tagF_len]
theorem tagF_get : ∀ (i : Nat) (l : List (Int × Int)) (k : Nat) (x : Int × Int), l[k]? = some x → (tagF i l)[k]? = some ⟨x.1, x.2, i + k⟩
  | _, [], k, x, h => by simp at h
  | i, y :: l, 0, x, h => by
    simp only [List.getElem?_cons_zero, Option.some.injEq] at h
    subst h
    rfl
  | i, y :: l, k + 1, x, h => by
    rw [tagF, List.getElem?_cons_succ, tagF_get (i + 1) l k x (by simpa using h), show i + 1 + k = i + (k + 1) by omega]
def strip (x : Be) : Int × Int := (x.a, x.c)
def StSort (l l' : List (Int × Int)) : Prop := ∃ os : List Be, os.Perm (tagF 0 l) ∧ os.Pairwise (fun x y => LT x y = true) ∧ l' = os.map strip
theorem StSort.len {l a : List (Int × Int)} (h : StSort l a) : a.length = l.length := by
  obtain ⟨o, p, _, rfl⟩ := h
  rw [List.length_map, p.length_eq, tagF_len]
theorem StSort.nil : StSort [] [] := ⟨[], List.Perm.refl _, List.Pairwise.nil, rfl⟩
def RowAt {α : Type} (w : World) (lo hi : Nat) (f : α → List Value) (sz : Nat) (A : Option Addr) (l : List α) : Prop :=
  0 < l.length → ∃ g, A = some ⟨g, 0, none⟩ ∧ lo ≤ g ∧ g < hi ∧ ∀ i x, l[i]? = some x → ∀ j u, (f x)[j]? = some u → w.cell? ⟨g, i * sz + j, none⟩ = some u
theorem RowAt.keep {α : Type} {w w' : World} {lo hi : Nat} {f : α → List Value} {sz : Nat} {A : Option Addr} {l : List α} (h : RowAt w lo hi f sz A l) (hb : ∀ g, lo ≤ g → g < hi → w'.heap[g]? = w.heap[g]?) : RowAt w' lo hi f sz A l := fun h0 => by
  obtain ⟨g, e, h1, h2, hc⟩ := h h0
  exact ⟨g, e, h1, h2, fun i x hx j u hj => (World.cell?_of_block (w := w) (hb g h1 h2)).trans (hc i x hx j u hj)⟩
theorem RowAt.of_own {α : Type} {w : World} {B e sz n c : Nat} {f : α → List Value} {A : Option Addr} {l : List α} (h : w.ownsRow B e sz (.slice A n c) n (l.flatMap f)) (hf : ∀ x, (f x).length = sz) (hn : n = l.length) : RowAt w B w.heap.size f sz A l := fun h0 => by
  obtain ⟨x, hx⟩ : ∃ x, l[0]? = some x := ⟨l[0], List.getElem?_eq_getElem h0⟩
  obtain ⟨g, c', e1, _, hg, hob, _⟩ := row_get h hf hx hn
  have hlt := h.lt g hob
  injection e1 with e1 _ _
  refine ⟨g, e1, hlt.1, hg, fun i x hx j u hj => ?_⟩
  obtain ⟨g', c', e2, _, _, _, hc⟩ := row_get h hf hx hn
  injection e2 with e2 _ _
  rw [e1] at e2
  injection e2 with e2
  injection e2 with e2
  subst e2
  exact hc j u hj
theorem swk_fr {w0 W : World} {blk off : Nat} {dk : Array Be} (S : SWK enc2 2 w0 blk off dk W) : W.os = w0.os ∧ W.tape = w0.tape ∧ W.output = w0.output ∧ w0.heap.size ≤ W.heap.size ∧ ∀ k, k < w0.heap.size → k ≠ blk → W.heap[k]? = w0.heap[k]? := by
  obtain ⟨n, os, rfl⟩ := S
  refine ⟨rfl, rfl, rfl, ?_, fun k hk hn => ?_⟩
  · unfold sortWorldK; rw [size_grow, size_putRowK]; show w0.heap.size ≤ w0.heap.size + _; omega
  · unfold sortWorldK putRowK putRow mapBlock Go.Sort.grow Go.Sort.ahead
    have h1 : k < (w0.heap.modify blk (onCells (putCells id off (flatK enc2 2 dk)))).size := by simp; omega
    simp only [Array.getElem?_append, h1, if_true, Array.getElem?_modify]
    rw [if_neg (by omega)]
theorem own_holds {w : World} {base g cap : Nat} {l : List (Int × Int)} (h : w.ownsRow base 50 2 (.slice (some ⟨g, 0, none⟩) l.length cap) l.length (l.flatMap baC)) : HoldsK enc2 2 w g 0 (tagF 0 l).toArray := fun t ht => by
  rw [size_flatK] at ht
  have ht' : t < l.length * 2 := by simpa [tagF_len] using ht
  rw [get_flatK _ _ _ _ ht]
  have hi : t / 2 < l.length := by omega
  obtain ⟨x, hx⟩ : ∃ x, l[t / 2]? = some x := ⟨l[t / 2], List.getElem?_eq_getElem hi⟩
  have e : (tagF 0 l).toArray[t / 2]! = ⟨x.1, x.2, 0 + t / 2⟩ := by
    have hh := tagF_get 0 l _ _ hx
    have hl : t / 2 < (tagF 0 l).toArray.size := by simpa [tagF_len] using hi
    rw [getElem!_pos (tagF 0 l).toArray _ hl, ← Option.some.injEq, ← hh]
    simp
  rw [e]
  obtain ⟨g', c', e2, _, _, _, hc⟩ := row_get h (fun _ => rfl) hx rfl
  injection e2 with e2 _ _
  injection e2 with e2
  injection e2 with e2
  subst e2
  have hr : t % 2 = 0 ∨ t % 2 = 1 := by omega
  refine ⟨?_, h.frozenAt (0 + t)⟩
  rcases hr with hr | hr
  · have := hc 0 (.int .i64 x.1) rfl
    rw [hr, show 0 + t = t / 2 * 2 + 0 by omega, this]
    rfl
  · have := hc 1 (.int .i64 x.2) rfl
    rw [hr, show 0 + t = t / 2 * 2 + 1 by omega, this]
    rfl
theorem tag_tied (l : List (Int × Int)) : Tied (tagF 0 l).toArray := by
  have key : ∀ k, k < (tagF 0 l).toArray.size → (at_ (tagF 0 l).toArray k).t = k := fun k hk => by
    have hk' : k < l.length := by simpa [tagF_len] using hk
    have hh := tagF_get 0 l k _ (List.getElem?_eq_getElem hk')
    unfold at_
    rw [getElem!_pos (tagF 0 l).toArray _ hk]
    have e : (tagF 0 l).toArray[k] = ⟨l[k].1, l[k].2, 0 + k⟩ := by
      rw [← Option.some.injEq, ← hh]
      simp
    rw [e]
    simp
  intro i j hij hj _
  rw [key i (by omega), key j hj]
  exact hij
set_option maxHeartbeats 2000000 in
set_option maxRecDepth 100000 in
theorem stable_none (A : Option Addr) (cap : Nat) (fv : Value) (w : World) : Calls Try.prog 47 #[.slice A 0 cap, .int .i64 0, fv] w fun e w' => e = .returned (.tuple #[]) ∧ w' = w := by
  have h68 : ∀ w, Calls Try.prog 68 #[.slice A 0 cap, .int .i64 0, .int .i64 0, fv] w fun e w' => e = .returned (.tuple #[]) ∧ w' = w := fun w => by
    go_enter Try.func68, Try.ntmps68
    go_wp2_with fail
    refine wp_loop_rounds 1 ?_
    rw [rounds_succ]
    go_wp2
    go_end0
    exact ⟨rfl, rfl⟩
  go_enter Try.func47, Try.ntmps47
  go_wp2_with fail
  refine wp_loop_rounds 1 ?_
  rw [rounds_succ]
  go_wp2_with (go_at_call 68; refine (h68 _).mono ?_; rintro e w' ⟨rfl, rfl⟩)
  refine wp_loop_rounds 1 ?_
  rw [rounds_succ]
  go_wp2
  go_end0
  exact ⟨rfl, rfl⟩
set_option maxHeartbeats 4000000 in
set_option maxRecDepth 100000 in
theorem sortBad_any {w : World} {B n c : Nat} {A : Option Addr} {l : List (Int × Int)} (h : w.ownsRow B 50 2 (.slice A n c) n (l.flatMap baC)) (hn : n = l.length) (hl : l.length ≤ 1000000) :
    Calls Try.prog 22 #[.slice A n c, .func (.func 23) #[] #[]] w fun e w' => e = .returned (.tuple #[]) ∧ (∃ l', StSort l l' ∧ RowAt w' B w'.heap.size baC 2 A l') ∧ w'.os = w.os ∧ w'.tape = w.tape ∧ w'.output = w.output ∧ w.heap.size ≤ w'.heap.size ∧ ∀ k, k < w.heap.size → (Value.slice A n c).ownBlock ≠ some k → w'.heap[k]? = w.heap[k]? := by
  subst hn
  by_cases h0 : l = []
  · subst h0
    simp only [List.length_nil]
    go_enter Try.func22, Try.ntmps22
    go_wp2_with (go_at_call 47; refine (stable_none _ _ _ _).mono ?_; rintro e w' ⟨rfl, rfl⟩)
    go_end0
    exact ⟨rfl, ⟨[], .nil, fun h => by simp at h⟩, rfl, rfl, rfl, Nat.le_refl _, fun _ _ _ => rfl⟩
  · have hlen : 0 < l.length := List.length_pos_iff.2 h0
    obtain ⟨x, hx⟩ : ∃ x, l[0]? = some x := ⟨l[0], List.getElem?_eq_getElem hlen⟩
    obtain ⟨g, c', e1, hc1, hg, hob, _⟩ := row_get h (fun _ => rfl) hx rfl
    rw [hob]
    injection e1 with e1 _ e3
    subst e1 e3
    have HLO : Hid (B ≤ g) := (h.lt g hob).1
    have hH := own_holds h
    have R : RowK enc2 2 w g 0 (tagF 0 l).toArray := ⟨enc2_len, enc2_one, hH, hg⟩
    have e0 : (tagF 0 l).toArray.size = l.length := by simp [tagF_len]
    have cc := stable_any g 0 c (tagF 0 l).toArray (tagF 0 l).toArray w w R rfl (SWK.start hH) (by rw [e0]; exact hl) (tag_tied l)
    rw [e0] at cc
    have C := Lib.hid cc
    have RR := Lib.hid R
    have E0 := Lib.hid e0
    obtain ⟨nn, hnn⟩ : ∃ nn, nn = l.length := ⟨_, rfl⟩
    have HNN := Lib.hid hnn
    rw [← hnn] at C ⊢
    clear cc R hH h hx e0 hlen hc1 hnn hob hl
    go_enter Try.func22, Try.ntmps22
    go_wp2_with fail
    refine C.out.mono ?_
    rintro e w2 ⟨rfl, d', s2, z2, p2, t2, x2⟩
    have S2 : Aside _ := s2
    have Z2 := Lib.hid z2
    have P2 := Lib.hid p2
    have X2 := Lib.hid x2
    have T2 := Lib.hid t2
    clear s2 z2 p2 x2 t2 C
    go_wp2_with fail
    go_end0
    have Z : d'.size = l.length := by rw [Z2.out, HNN.out]
    have S2' : SWK enc2 2 w g 0 d' w2 := S2.out
    refine ⟨rfl, ⟨d'.toList.map strip, ⟨d'.toList, ?_, ?_, rfl⟩, ?_⟩, ?_⟩
    · have h1 := P2.out.2.2
      have h2 : d'.extract 0 nn = d' := by rw [HNN.out, ← Z]; simp
      have h3 : (tagF 0 l).toArray.extract 0 nn = (tagF 0 l).toArray := by rw [HNN.out, ← E0.out]; simp
      rw [h2, h3] at h1
      simpa using h1
    · rw [List.pairwise_iff_getElem]
      intro i j hi hj hij
      have hj' : j < d'.size := by simpa using hj
      have h1 := X2.out i j (Nat.zero_le _) hij (by rw [HNN.out, ← Z]; exact hj')
      have h2 := T2.out i j hij hj'
      unfold at_ at h1 h2
      rw [getElem!_pos d' j hj', getElem!_pos d' i (by omega)] at h1 h2
      rw [show d'.toList[i] = d'[i]'(by omega) from by simp, show d'.toList[j] = d'[j] from by simp]
      unfold LT at *
      simp only [decide_eq_true_iff, decide_eq_false_iff_not] at *
      omega
    · intro _
      refine ⟨g, rfl, HLO.out, S2'.lt RR.out.hblk, fun i y hy j u hj => ?_⟩
      have hi : i < d'.size := by
        have := (List.getElem?_eq_some_iff.1 hy).1
        simpa using this
      obtain ⟨⟨k1, k2⟩, _⟩ := swk_cells S2' RR.out (by rw [Z, E0.out]) i hi
      have e : y = strip d'[i]! := by
        rw [getElem!_pos d' i hi]
        rw [List.getElem?_map, List.getElem?_eq_getElem (by simpa using hi)] at hy
        simpa using hy.symm
      subst e
      rcases j with _ | _ | j
      · simp only [strip, List.getElem?_cons_zero, Option.some.injEq] at hj
        subst hj
        simpa using k1
      · simp only [strip, Nat.zero_add, List.getElem?_cons_succ, List.getElem?_cons_zero, Option.some.injEq] at hj
        subst hj
        simpa using k2
      · simp at hj
    · obtain ⟨a1, a2, a3, a4, a5⟩ := swk_fr S2'
      exact ⟨a1, a2, a3, a4, fun k hk hne => a5 k hk (fun e => hne (by rw [e]))⟩
end Sb
end Go.Proofs.Ytnefnnoleeeedaa
namespace Go.Proofs.Ytnefnnoleeeedaa
open Go.RowKit Go.Op
namespace Sc
open Sb
theorem binds_ok : ∀ (l : Tr) (i : Nat) (s : St), Ok s → 0 ≤ s.lam → s.lam ≤ 1000000 → Ok (binds i l s) ∧ (binds i l s).lam = s.lam
  | .nil, _, s, h, _, _ => ⟨h, rfl⟩
  | .cons hd _ r, i, s, h, h0, h1 => by
    rw [binds]
    have g := bind1_ok hd (s := { s with item := (i : Int) }) (h.item _) ⟨h0, h1⟩
    have hl : (bind1 hd { s with item := (i : Int) }).lam = s.lam := g.lam
    have := binds_ok r (i + 1) _ g.ok (by rw [hl]; exact h0) (by rw [hl]; exact h1)
    exact ⟨this.1, this.2.trans hl⟩
theorem items_ok : ∀ (l : Tr) (i : Nat) (s : St), Ok s → 0 ≤ s.lam → s.lam + l.cnt ≤ 1000000 → Ok (items i l s) ∧ (items i l s).lam = s.lam
  | .nil, _, s, h, _, _ => ⟨h, rfl⟩
  | .cons hd k r, i, s, h, h0, h1 => by
    rw [items]
    rw [Tr.cnt] at h1
    have g := node_ok hd (nodes k) k.cnt (fun s a b c => nodes_ok k s a b c) { s with item := (i : Int) } (h.item _) h0 (by show s.lam + _ ≤ _; omega)
    have hl : (node hd (nodes k) { s with item := (i : Int) }).lam = s.lam := g.lam
    have := items_ok r (i + 1) _ g.ok (by rw [hl]; exact h0) (by rw [hl]; omega)
    exact ⟨this.1, this.2.trans hl⟩
set_option maxHeartbeats 4000000 in
set_option maxRecDepth 100000 in
theorem clo20_any {X : Wc} {h : Hi} {A : Option Addr} {n cap : Nat} {w : World} {R : Ending → World → Prop} (p0 p1 : Nat) (r0 : RowB w p0 68 #[X.p]) (r1 : RowB w p1 25 (hcc h A n cap)) (hc : Calls Try.prog 21 #[X.p, .slice A n cap] w fun e w' => e = .returned (.tuple #[]) ∧ R e w') :
    Calls Try.prog 20 #[.pointer (some ⟨p0, 0, none⟩), .pointer (some ⟨p1, 0, none⟩)] w R := by
  have y0 := r0.cell
  have y1 := r1.cell
  have CC := Lib.hid hc
  obtain ⟨b, mb, B⟩ := X
  simp only [hcc] at *
  clear r0 r1 hc
  go_enter Try.func20, Try.ntmps20
  go_wp2_with fail
  refine CC.out.mono ?_
  rintro e w2 ⟨rfl, hR⟩
  go_wp2_with fail
  go_end0
  exact hR
def OfA (w : World) (st : St) (e : Ending) (w' : World) : Prop :=
  ∃ A1 c1 A2 c2 A3 c3 l3, e = .returned (.agg #[.slice A1 st.bs.length c1, .slice A2 st.ms.length c2, .slice A3 st.bad.length c3]) ∧ StSort st.bad l3 ∧ RowAt w' w.heap.size w'.heap.size bdC 4 A1 st.bs ∧ RowAt w' w.heap.size w'.heap.size mnC 4 A2 st.ms ∧ RowAt w' w.heap.size w'.heap.size baC 2 A3 l3 ∧ st.bs.length ≤ c1 ∧ st.ms.length ≤ c2 ∧ st.bad.length ≤ c3 ∧ st.bs.length + st.ms.length + st.bad.length ≤ 100000000 ∧ Below w.heap.size w w'
def ofS (h : Hi) (k : Tr) : St := if h.kind = 1 then file k else .none
set_option maxHeartbeats 8000000 in
set_option maxRecDepth 100000 in
theorem of_none {w : World} (h : Hi) (A : Option Addr) (n cap : Nat) (hk : h.kind ≠ 1) : Calls Try.prog 10 #[hvv h A n cap] w (OfA w .none) := by
  have hk' : (h.kind != 1) = true := by rw [bne_iff_ne]; exact hk
  obtain ⟨kd, fro, til, word, at_⟩ := h
  simp only [hvv] at *
  have HB : Hid (Below w.heap.size w ((w.alloc (.cells #[.int .i64 kd, .int .i64 fro, .int .i64 til, .string word, .int .i64 at_, .slice A n cap] 25)).alloc (.cells #[.slice none 0 0, .slice none 0 0, .slice none 0 0] 34))) := (belA w _).alloc (by simp) _
  have RZ := Lib.hid (RowB.new (w.alloc (.cells #[.int .i64 kd, .int .i64 fro, .int .i64 til, .string word, .int .i64 at_, .slice A n cap] 25)) 34 #[.slice none 0 0, .slice none 0 0, .slice none 0 0])
  go_enter Try.func10, Try.ntmps10
  go_wp2
  have y9 := RZ.out.cell
  simp only [World.size_alloc] at y9
  refine bodyPost_ret (v := .agg #[.slice none 0 0, .slice none 0 0, .slice none 0 0]) ?_ rfl ⟨none, 0, none, 0, none, 0, [], rfl, StSort.nil, fun h => by simp [St.none] at h, fun h => by simp [St.none] at h, fun h => by simp at h, Nat.le_refl _, Nat.le_refl _, Nat.le_refl _, by simp [St.none], HB.out⟩
  simp [results, Try.results10, go_sem, y9]
  try first | rfl | exact ⟨rfl, rfl⟩
set_option maxHeartbeats 8000000 in
set_option maxRecDepth 100000 in
theorem of_file {w : World} (h : Hi) (k : Tr) (A : Option Addr) (cap : Nat) (hk : h.kind = 1) (ht : TV w w.heap.size k A cap) (hc : k.cnt ≤ 100000) : Calls Try.prog 10 #[hvv h A k.len cap] w (OfA w (file k)) := by
  obtain ⟨kd, fro, til, word, at_⟩ := h
  simp only at hk
  subst hk
  have hmm := @run_makeMap Try.prog
  obtain ⟨n, hn⟩ : ∃ n, n = k.len := ⟨_, rfl⟩
  obtain ⟨W1, hW1⟩ : ∃ W1, W1 = (w.alloc (.cells #[.int .i64 1, .int .i64 fro, .int .i64 til, .string word, .int .i64 at_, .slice A n cap] 25)).alloc (.cells #[.slice none 0 0, .slice none 0 0, .slice none 0 0] 34) := ⟨_, rfl⟩
  obtain ⟨W2, hW2⟩ : ∃ W2, W2 = W1.alloc (.map #[] 0) := ⟨_, rfl⟩
  obtain ⟨W3, hW3⟩ : ∃ W3, W3 = W2.alloc (.cells (wcc (.slice none 0 0) (.slice none 0 0) (.slice none 0 0) (.slice none 0 0) (w.heap.size + 2) none 0 0) 72) := ⟨_, rfl⟩
  obtain ⟨W4, hW4⟩ : ∃ W4, W4 = W3.alloc (.cells #[Wc.p ⟨w.heap.size + 3, w.heap.size + 2, w.heap.size⟩] 68) := ⟨_, rfl⟩
  have S1 : W1.heap.size = w.heap.size + 2 := by rw [hW1]; simp
  have S2 : W2.heap.size = w.heap.size + 3 := by rw [hW2]; simp [S1]
  have S3 : W3.heap.size = w.heap.size + 4 := by rw [hW3]; simp [S2]
  have S4 : W4.heap.size = w.heap.size + 5 := by rw [hW4]; simp [S3]
  have r1 : RowB W4 w.heap.size 25 #[.int .i64 1, .int .i64 fro, .int .i64 til, .string word, .int .i64 at_, .slice A n cap] := by rw [hW4, hW3, hW2, hW1]; exact ((((RowB.new w 25 _).alloc _).alloc _).alloc _).alloc _
  have r2 : RowB W4 (w.heap.size + 1) 34 #[.slice none 0 0, .slice none 0 0, .slice none 0 0] := by
    have := RowB.new (w.alloc (.cells #[.int .i64 1, .int .i64 fro, .int .i64 til, .string word, .int .i64 at_, .slice A n cap] 25)) 34 #[.slice none 0 0, .slice none 0 0, .slice none 0 0]
    rw [show (w.alloc (.cells #[.int .i64 1, .int .i64 fro, .int .i64 til, .string word, .int .i64 at_, .slice A n cap] 25)).heap.size = w.heap.size + 1 by simp, ← hW1] at this
    rw [hW4, hW3, hW2]
    exact ((this.alloc _).alloc _).alloc _
  have rm : MF W4 (w.heap.size + 2) 0 fun _ => none := by
    have := MF.new W1
    rw [S1, ← hW2] at this
    refine this.of_block ?_
    rw [hW4, hW3]
    exact (Below.heap_alloc _ _ _ (by rw [← hW3, S3]; omega)).trans (Below.heap_alloc _ _ _ (by rw [S2]; omega))
  have rb : RowB W4 (w.heap.size + 3) 72 (wcc (.slice none 0 0) (.slice none 0 0) (.slice none 0 0) (.slice none 0 0) (w.heap.size + 2) none 0 0) := by
    have := RowB.new W2 72 (wcc (.slice none 0 0) (.slice none 0 0) (.slice none 0 0) (.slice none 0 0) (w.heap.size + 2) none 0 0)
    rw [S2, ← hW3] at this
    rw [hW4]
    exact this.alloc _
  have r4 : RowB W4 (w.heap.size + 4) 68 #[Wc.p ⟨w.heap.size + 3, w.heap.size + 2, w.heap.size⟩] := by
    have := RowB.new W3 68 #[Wc.p ⟨w.heap.size + 3, w.heap.size + 2, w.heap.size⟩]
    rw [S3, ← hW4] at this
    exact this
  have hB4 : Below w.heap.size w W4 := by rw [hW4, hW3, hW2, hW1]; exact (((((belA w _).alloc (by simp) _).alloc (by simp; omega) _).alloc (by simp; omega) _).alloc (by simp; omega) _)
  have hws : WSr ⟨w.heap.size + 3, w.heap.size + 2, w.heap.size⟩ W4 (fun g => g = w.heap.size + 3 ∨ g = w.heap.size + 2) none .none 0 (.slice none 0 0) (.slice none 0 0) (.slice none 0 0) (.slice none 0 0) 0 0 :=
    ⟨rb, World.ownsRow_nil _ _ _ _, World.ownsRow_nil _ _ _ _, World.ownsRow_nil _ _ _ _, World.ownsRow_nil _ _ _ _, ⟨_, rm, fun _ => rfl⟩, ⟨rfl, rfl⟩, (by simp), Nat.le_refl _, .inl rfl, .inr rfl, (fun h e => by cases e), (fun g e => by cases e), (fun g e => by cases e), (fun g e => by cases e), (fun g e => by cases e), (fun g hg => by rcases hg with rfl | rfl <;> exact ⟨by simp, by rw [S4]; omega⟩)⟩
  have hTH : Thru ⟨w.heap.size + 3, w.heap.size + 2, w.heap.size⟩ W4 (fun g => g = w.heap.size + 3 ∨ g = w.heap.size + 2) 0 (8 * k.cnt) .none 0 (fun s => items 0 k (binds 0 k s)) 20 #[.pointer (some ⟨w.heap.size + 4, 0, none⟩), .pointer (some ⟨w.heap.size, 0, none⟩)] := fun hb N1 w1 K1 a1 a2 a3 a4 a5 => by
    have q0 : RowB w1 (w.heap.size + 4) 68 _ := (a4 _ r4.lt (by omega)).trans r4
    have q1 : RowB w1 w.heap.size 25 _ := (a4 _ r1.lt (by omega)).trans r1
    obtain rfl : N1 = 0 := by omega
    have hold : Old w.heap.size w w1 := fun g hg => (a4 g (by rw [S4]; omega) (by omega)).trans (hB4.block g hg)
    refine clo20_any (h := ⟨1, fro, til, word, at_⟩) _ _ q0 q1 ?_
    rw [hn]
    exact (file_any k w1 K1 hb (enter 0 .none) 0 A cap a1 (enter_ok 0 Ok.none) (by decide) (by show (0 : Int) + 0 + _ ≤ _; omega) (by omega) (ht.keep hold) (Nat.le_trans (show w.heap.size ≤ W4.heap.size by omega) a3)).mono fun e w' h => ⟨h.1, h⟩
  have hlam : (items 0 k (binds 0 k (enter 0 .none))).lam = St.none.lam + 0 := by
    obtain ⟨b1, b2⟩ := binds_ok k 0 (enter 0 .none) (enter_ok 0 Ok.none) (by decide) (by decide)
    have hl0 : (enter 0 St.none).lam = 0 := rfl
    rw [hl0] at b2
    obtain ⟨_, c2⟩ := items_ok k 0 _ b1 (by rw [b2]; decide) (by rw [b2]; omega)
    rw [c2, b2]
    rfl
  have CT := Lib.hid (through_any hws 0 (.inl rfl) ⟨by decide, by decide⟩ 20 _ (fun s => items 0 k (binds 0 k s)) (8 * k.cnt) hTH (enterF _ _ (by decide)) hlam (by omega))
  have HB4 := Lib.hid hB4
  have R2 := Lib.hid r2
  have R4 := Lib.hid r4
  have SS := Lib.hid S4
  have HWA := Lib.hid (show W4 = ((((w.alloc (.cells #[.int .i64 1, .int .i64 fro, .int .i64 til, .string word, .int .i64 at_, .slice A n cap] 25)).alloc (.cells #[.slice none 0 0, .slice none 0 0, .slice none 0 0] 34)).alloc (.map #[] 0)).alloc (.cells (wcc (.slice none 0 0) (.slice none 0 0) (.slice none 0 0) (.slice none 0 0) (w.heap.size + 2) none 0 0) 72)).alloc (.cells #[Wc.p ⟨w.heap.size + 3, w.heap.size + 2, w.heap.size⟩] 68) by rw [hW4, hW3, hW2, hW1])
  have hmf : ∀ (fn : Fn) (first cap : Array Value) (w : World), (Instr.makeFunc fn first cap).run Try.prog w = .ok (.func fn first cap) w := fun _ _ _ _ => rfl
  have HC := Lib.hid hc
  simp only [hvv]
  rw [← hn]
  clear hTH hlam hws r1 r2 rm rb r4 hB4 S1 S2 S3 S4 hW1 hW2 hW3 hW4 ht hn hc
  go_enter Try.func10, Try.ntmps10
  go_wp2_with fail
  rw [show w.heap.size + 1 + 1 + 1 + 1 = w.heap.size + 4 from rfl, show w.heap.size + 1 + 1 + 1 = w.heap.size + 3 from rfl, show w.heap.size + 1 + 1 = w.heap.size + 2 from rfl, ← HWA.out]
  refine CT.out.mono ?_
  rintro e W5 ⟨rfl, K5, ⟨v1, v2, v3, v4, nm, nh, h5⟩, g5⟩
  have hsz : W4.heap.size = w.heap.size + 5 := SS.out
  obtain ⟨st, hst⟩ : ∃ st, st = file k := ⟨_, rfl⟩
  have HST := Lib.hid hst
  have h5' : WSr ⟨w.heap.size + 3, w.heap.size + 2, w.heap.size⟩ W5 K5 none st (0 + 8 * k.cnt) v1 v2 v3 v4 nm nh := by rw [hst]; exact h5
  clear h5
  obtain ⟨A1, c1, rfl, hc1⟩ := own_shape h5'.o1
  obtain ⟨A2, c2, rfl, hc2⟩ := own_shape h5'.o2
  obtain ⟨A3, c3, rfl, hc3⟩ := own_shape h5'.o3
  have k1 : ¬ K5 (w.heap.size + 1) := fun hk => by rcases g5.own _ hk with h | h <;> omega
  have k4 : ¬ K5 (w.heap.size + 4) := fun hk => by rcases g5.own _ hk with h | h <;> omega
  have q2 := g5.row R2.out (by omega)
  have q4 := g5.row R4.out (by omega)
  have hlen : st.bad.length ≤ 1000000 := by have := h5'.sum; have := HC.out; omega
  have CS := Lib.hid (sortBad_any h5'.o3 rfl hlen)
  have HB5 : Hid (Below w.heap.size w W5) := ⟨g5.os.trans HB4.out.os, g5.tape.trans HB4.out.tape, g5.output.trans HB4.out.output, Nat.le_trans HB4.out.size g5.size, fun g hg => (g5.block g (by omega) (by omega)).trans (HB4.out.block g hg)⟩
  have HK1 := Lib.hid k1
  have HK4 := Lib.hid k4
  have H5 := Lib.hid h5'
  have Q2 := Lib.hid q2
  have Q4 := Lib.hid q4
  have y4 := q4.cell
  have yb := h5'.row.cell
  have HLC := Lib.hid (show st.bs.length ≤ c1 ∧ st.ms.length ≤ c2 ∧ st.bad.length ≤ c3 ∧ st.bs.length + st.ms.length + st.bad.length ≤ 100000000 from ⟨hc1, hc2, hc3, by have := h5'.sum; have := HC.out; omega⟩)
  obtain ⟨n1, hn1⟩ : ∃ n1, n1 = st.bs.length := ⟨_, rfl⟩
  obtain ⟨n2, hn2⟩ : ∃ n2, n2 = st.ms.length := ⟨_, rfl⟩
  obtain ⟨n3, hn3⟩ : ∃ n3, n3 = st.bad.length := ⟨_, rfl⟩
  have HN := Lib.hid (show n1 = st.bs.length ∧ n2 = st.ms.length ∧ n3 = st.bad.length from ⟨hn1, hn2, hn3⟩)
  rw [← hn1, ← hn2, ← hn3] at yb
  rw [← hn3] at CS
  simp only at yb
  clear h5' q2 q4 k1 k4 hlen hc1 hc2 hc3 CT R2 R4 HB4 HWA hst g5 hsz hn1 hn2 hn3
  go_wp2_with fail
  refine CS.out.mono ?_
  rintro e W6 ⟨rfl, ⟨l3, hl3, hr3⟩, o1, o2, o3, o4, o5⟩
  have hs5 := H5.out
  have hne3 : ∀ g, ¬ K5 g → (Value.slice A3 n3 c3).ownBlock ≠ some g := fun g hg e => hg (hs5.k3 g (by rw [← HN.out.2.2]; exact e))
  have hb3 : (Value.slice A3 n3 c3).ownBlock ≠ some (w.heap.size + 3) := fun e => own_ne_row hs5.o3 hs5.row (by decide) (by rw [← HN.out.2.2]; exact e)
  have hrow := (show W6.heap[w.heap.size + 3]? = W5.heap[w.heap.size + 3]? from o5 _ hs5.row.lt hb3).trans hs5.row
  have p2 : RowB W6 (w.heap.size + 1) 34 _ := (o5 _ Q2.out.lt (hne3 _ HK1.out)).trans Q2.out
  have p4 : RowB W6 (w.heap.size + 4) 68 _ := (o5 _ Q4.out.lt (hne3 _ HK4.out)).trans Q4.out
  have z1 : W6.ownsRow w.heap.size 45 4 _ _ _ := own_block hs5.o1 fun g e => o5 g (hs5.lt g (hs5.k1 g e)).2 (fun e2 => by
    rw [HN.out.2.2] at e2
    rcases own_apart hs5.o1 hs5.o3 (by decide) with a | a
    · rw [a] at e; cases e
    · exact a (e.trans e2.symm))
  have z2 : W6.ownsRow w.heap.size 47 4 _ _ _ := own_block hs5.o2 fun g e => o5 g (hs5.lt g (hs5.k2 g e)).2 (fun e2 => by
    rw [HN.out.2.2] at e2
    rcases own_apart hs5.o2 hs5.o3 (by decide) with a | a
    · rw [a] at e; cases e
    · exact a (e.trans e2.symm))
  have HS6 : Hid (∀ u1 u2 u3, Below w.heap.size w (((W6.setCell ⟨w.heap.size + 1, 0, none⟩ u1).setCell ⟨w.heap.size + 1, 1, none⟩ u2).setCell ⟨w.heap.size + 1, 2, none⟩ u3)) := fun u1 u2 u3 =>
    (((show Below w.heap.size w W6 from ⟨o1.trans HB5.out.os, o2.trans HB5.out.tape, o3.trans HB5.out.output, Nat.le_trans HB5.out.size o4, fun g hg => (o5 g (Nat.lt_of_lt_of_le hg HB5.out.size) (hne3 g (fun hk => by have := (hs5.lt g hk).1; simp only at this; omega))).trans (HB5.out.block g hg)⟩).setCell (by show w.heap.size ≤ w.heap.size + 1; omega) _).setCell (by show w.heap.size ≤ w.heap.size + 1; omega) _).setCell (by show w.heap.size ≤ w.heap.size + 1; omega) _
  have hset : ∀ u1 u2 u3 g, g ≠ w.heap.size + 1 → (((W6.setCell ⟨w.heap.size + 1, 0, none⟩ u1).setCell ⟨w.heap.size + 1, 1, none⟩ u2).setCell ⟨w.heap.size + 1, 2, none⟩ u3).heap[g]? = W6.heap[g]? := fun u1 u2 u3 g hg =>
    (Below.heap_setCell _ _ _ g hg).trans ((Below.heap_setCell _ _ _ g hg).trans (Below.heap_setCell _ _ _ g hg))
  have ZA : Hid (∀ u1 u2 u3, RowAt (((W6.setCell ⟨w.heap.size + 1, 0, none⟩ u1).setCell ⟨w.heap.size + 1, 1, none⟩ u2).setCell ⟨w.heap.size + 1, 2, none⟩ u3) w.heap.size (((W6.setCell ⟨w.heap.size + 1, 0, none⟩ u1).setCell ⟨w.heap.size + 1, 1, none⟩ u2).setCell ⟨w.heap.size + 1, 2, none⟩ u3).heap.size bdC 4 A1 st.bs) := fun u1 u2 u3 => RowAt.of_own (own_block z1 fun g e => hset u1 u2 u3 g (fun e2 => HK1.out (e2 ▸ hs5.k1 g e))) (fun _ => rfl) rfl
  have ZB : Hid (∀ u1 u2 u3, RowAt (((W6.setCell ⟨w.heap.size + 1, 0, none⟩ u1).setCell ⟨w.heap.size + 1, 1, none⟩ u2).setCell ⟨w.heap.size + 1, 2, none⟩ u3) w.heap.size (((W6.setCell ⟨w.heap.size + 1, 0, none⟩ u1).setCell ⟨w.heap.size + 1, 1, none⟩ u2).setCell ⟨w.heap.size + 1, 2, none⟩ u3).heap.size mnC 4 A2 st.ms) := fun u1 u2 u3 => RowAt.of_own (own_block z2 fun g e => hset u1 u2 u3 g (fun e2 => HK1.out (e2 ▸ hs5.k2 g e))) (fun _ => rfl) rfl
  have ZC : Hid (∀ u1 u2 u3, RowAt (((W6.setCell ⟨w.heap.size + 1, 0, none⟩ u1).setCell ⟨w.heap.size + 1, 1, none⟩ u2).setCell ⟨w.heap.size + 1, 2, none⟩ u3) w.heap.size (((W6.setCell ⟨w.heap.size + 1, 0, none⟩ u1).setCell ⟨w.heap.size + 1, 1, none⟩ u2).setCell ⟨w.heap.size + 1, 2, none⟩ u3).heap.size baC 2 A3 l3) := fun u1 u2 u3 h0 => by
    obtain ⟨g, e1, hlo, hg, hc⟩ := hr3 h0
    have hgn : g ≠ w.heap.size + 1 := fun e2 => hne3 _ HK1.out (by rw [e1, e2]; rfl)
    exact ⟨g, e1, hlo, by simpa [World.setCell] using hg, fun i x hx j u hj => (World.cell?_of_block (w := W6) (hset u1 u2 u3 g hgn)).trans (hc i x hx j u hj)⟩
  have y4 := p4.cell
  have yb : ∀ i, W6.cell? ⟨w.heap.size + 3, i, none⟩ = (wcc (.slice A1 n1 c1) (.slice A2 n2 c2) (.slice A3 n3 c3) v4 (w.heap.size + 2) none st.lam st.item)[i]? := fun i => by rw [HN.out.1, HN.out.2.1, HN.out.2.2]; exact RowB.cell (show RowB W6 (w.heap.size + 3) 72 _ from hrow) i
  have yc := p2.cell
  have yt := p2.thaw
  have PP := Lib.hid p2
  have HL3 := Lib.hid hl3
  clear hs5 hne3 hb3 hrow p2 p4 z1 z2 hset o1 o2 o3 o4 o5 hl3 hr3 CS H5 HB5 Q2 Q4 HK1 HK4
  go_wp2
  have y9 := (((PP.out.put 0 (.slice A1 n1 c1)).put 1 (.slice A2 n2 c2)).put 2 (.slice A3 n3 c3)).cell
  refine bodyPost_ret (v := .agg #[.slice A1 n1 c1, .slice A2 n2 c2, .slice A3 n3 c3]) ?_ rfl (by rw [← HST.out]; exact ⟨A1, c1, A2, c2, A3, c3, l3, by rw [HN.out.1, HN.out.2.1, HN.out.2.2], HL3.out, ZA.out _ _ _, ZB.out _ _ _, ZC.out _ _ _, HLC.out.1, HLC.out.2.1, HLC.out.2.2.1, HLC.out.2.2.2, HS6.out _ _ _⟩)
  simp [results, Try.results10, go_sem, y9]
  try first | rfl | exact ⟨rfl, rfl⟩
theorem of_any {w : World} (h : Hi) (k : Tr) (A : Option Addr) (cap : Nat) (ht : TV w w.heap.size k A cap) (hc : k.cnt ≤ 100000) : Calls Try.prog 10 #[hvv h A k.len cap] w (OfA w (ofS h k)) := by
  unfold ofS
  split
  · rename_i hk
    exact of_file h k A cap hk ht hc
  · rename_i hk
    exact of_none h A k.len cap hk
end Sc
end Go.Proofs.Ytnefnnoleeeedaa
namespace Go.Proofs.Ytnefnnoleeeedaa
open Go.RowKit Go.Op
namespace Sc
theorem TC.up {w : World} {B B' : Nat} (hB : B ≤ B') : ∀ (f : Tr) (cs : List Value), TC w B f cs → TC w B' f cs
  | .nil, cs, h => by rw [TC] at h ⊢; exact h
  | .cons hd k r, cs, h => by
    rw [TC] at h ⊢
    obtain ⟨A, cap, cs', e, hw, hc, hk, hr⟩ := h
    refine ⟨A, cap, cs', e, hw, hc, fun h0 => ?_, TC.up hB r cs' hr⟩
    obtain ⟨g, o, ck, e1, h1, h3, h4⟩ := hk h0
    exact ⟨g, o, ck, e1, by omega, h3, TC.up hB k ck h4⟩
theorem TV.up {w : World} {B B' : Nat} (hB : B ≤ B') {k : Tr} {A : Option Addr} {cap : Nat} (h : TV w B k A cap) : TV w B' k A cap := by
  refine ⟨h.1, fun h0 => ?_⟩
  obtain ⟨g, o, ck, e1, h1, h3, h4⟩ := h.2 h0
  exact ⟨g, o, ck, e1, by omega, h3, TC.up hB k ck h4⟩
end Sc
end Go.Proofs.Ytnefnnoleeeedaa
namespace Go.Proofs.Ytnefnnoleeeedaa
open Go.RowKit Go.Op
namespace Sc
open Sb
abbrev mvv (u : Mn) : Value := .agg #[.int .i64 u.at_, .int .i64 u.to, .bool u.write, .int .i64 u.far]
abbrev mapv (A1 : Option Addr) (n1 c1 : Nat) (A2 : Option Addr) (n2 c2 : Nat) (A3 : Option Addr) (n3 c3 : Nat) : Value := .agg #[.slice A1 n1 c1, .slice A2 n2 c2, .slice A3 n3 c3]
def hasB (n1 : Nat) (i : Int) : Bool := decide (0 ≤ i) && decide (i < n1)
set_option maxHeartbeats 4000000 in
set_option maxRecDepth 100000 in
theorem has_any (A1 : Option Addr) (n1 c1 : Nat) (A2 : Option Addr) (n2 c2 : Nat) (A3 : Option Addr) (n3 c3 : Nat) (i : Int) (w : World) : Calls Try.prog 31 #[mapv A1 n1 c1 A2 n2 c2 A3 n3 c3, .int .i64 i] w fun e w' => e = .returned (.bool (hasB n1 i)) ∧ Below w.heap.size w w' := by
  have HB := Lib.hid (belA w (.cells #[.slice A1 n1 c1, .slice A2 n2 c2, .slice A3 n3 c3] 34))
  unfold hasB
  by_cases h0 : 0 ≤ i
  · by_cases h1 : i < (n1 : Int)
    · go_enter Try.func31, Try.ntmps31
      go_wp2
      (first | go_ret | go_ret2)
      exact ⟨by simp [h0, h1], HB.out⟩
    · have h1' : decide (i < (n1 : Int)) = false := decide_eq_false h1
      go_enter Try.func31, Try.ntmps31
      go_wp2
      (first | go_ret | go_ret2)
      exact ⟨by simp, HB.out⟩
  · have h0' : decide (0 ≤ i) = false := decide_eq_false h0
    go_enter Try.func31, Try.ntmps31
    go_wp2
    (first | go_ret | go_ret2)
    exact ⟨by simp, HB.out⟩
set_option maxHeartbeats 4000000 in
set_option maxRecDepth 100000 in
theorem w42_any (u : Mn) (w : World) : Calls Try.prog 42 #[mvv u] w fun e w' => e = .returned (.bool u.write) ∧ Below w.heap.size w w' := by
  have HB := Lib.hid (belA w (.cells #[.int .i64 u.at_, .int .i64 u.to, .bool u.write, .int .i64 u.far] 47))
  obtain ⟨a, t, wr, f⟩ := u
  simp only at *
  go_enter Try.func42, Try.ntmps42
  go_wp2
  (first | go_ret | go_ret2)
  exact ⟨by first | rfl | simp, HB.out⟩
set_option maxHeartbeats 4000000 in
set_option maxRecDepth 100000 in
theorem w61_any (u : Mn) (i : Int) (q1 q2 : Nat) (w : World) (r1 : RowB w q1 3 #[.int .i64 i]) (r2 : RowB w q2 97 #[.func (.func 42) #[] #[]]) :
    Calls Try.prog 61 #[mvv u, .pointer (some ⟨q1, 0, none⟩), .pointer (some ⟨q2, 0, none⟩)] w fun e w' => e = .returned (.bool (u.to == i && u.write)) ∧ Below w.heap.size w w' := by
  have HB := Lib.hid (belA w (.cells #[.int .i64 u.at_, .int .i64 u.to, .bool u.write, .int .i64 u.far] 47))
  have y1 := (r1.alloc (.cells #[.int .i64 u.at_, .int .i64 u.to, .bool u.write, .int .i64 u.far] 47)).cell
  have y2 := (r2.alloc (.cells #[.int .i64 u.at_, .int .i64 u.to, .bool u.write, .int .i64 u.far] 47)).cell
  have CC := Lib.hid (w42_any u (w.alloc (.cells #[.int .i64 u.at_, .int .i64 u.to, .bool u.write, .int .i64 u.far] 47)))
  obtain ⟨a, t, wr, f⟩ := u
  simp only [mvv] at *
  clear r1 r2
  by_cases h : t = i
  · subst h
    go_enter Try.func61, Try.ntmps61
    go_wp2_with fail
    refine CC.out.mono ?_
    rintro e w2 ⟨rfl, h2⟩
    have H2 := Lib.hid (HB.out.trans (h2.mono (by simp)))
    clear h2 CC
    go_wp2_with fail
    (first | go_ret | go_ret2)
    exact ⟨by first | rfl | simp, H2.out⟩
  · have h' : (t == i) = false := by rw [beq_eq_false_iff_ne]; exact h
    rw [h']
    clear CC
    go_enter Try.func61, Try.ntmps61
    go_wp2
    (first | go_ret | go_ret2)
    exact ⟨by first | rfl | simp, HB.out⟩
def anyW (i : Int) (l : List Mn) : Bool := l.any fun u => u.to == i && u.write
set_option maxHeartbeats 8000000 in
set_option maxRecDepth 100000 in
theorem idx_any (i : Int) (q1 q2 : Nat) (w : World) (r1 : RowB w q1 3 #[.int .i64 i]) (r2 : RowB w q2 97 #[.func (.func 42) #[] #[]]) (A : Option Addr) (c lo hi : Nat) (l : List Mn) (hl : RowAt w lo hi mnC 4 A l) (hh : hi ≤ w.heap.size) (hn : l.length ≤ 1000000000) :
    Calls Try.prog 86 #[.slice A l.length c, .func (.func 61) #[] #[.pointer (some ⟨q1, 0, none⟩), .pointer (some ⟨q2, 0, none⟩)]] w fun e w' => ∃ r : Int, e = .returned (.int .i64 r) ∧ decide (0 ≤ r) = anyW i l ∧ Below w.heap.size w w' := by
  have HL := Lib.hid hl
  have R1 := Lib.hid r1
  have R2 := Lib.hid r2
  have e61 : ∀ args w, (callFunc 61 args).run Try.prog w = .ok (.enter 61 args) w := enters_of Try.func61 (by kernel_rfl) rfl
  obtain ⟨n, hn0⟩ : ∃ n, n = l.length := ⟨_, rfl⟩
  have HN0 := Lib.hid hn0
  rw [← hn0] at hn ⊢
  clear hl r1 r2 hn0
  go_enter Try.func86, Try.ntmps86
  go_wp2_with fail
  go_loopg [8] (n + 1) (fun kx s8 wr => ∃ (j : Nat), s8 = .int .i64 j ∧ n - j ≤ kx ∧ j ≤ n ∧ Hid (Below w.heap.size w wr) ∧ Hid (anyW i l = anyW i (l.drop j)))
  case atStart => exact ⟨0, rfl, by omega, by omega, Below.refl _ _, by rw [List.drop_zero]; rfl⟩
  case round =>
    obtain ⟨j, rfl, hkx, hjn, HB, HE⟩ := hrel
    by_cases hj : j < n
    · have hjl : (j : Int) < (n : Int) := by omega
      obtain ⟨u, hu⟩ : ∃ u, l[j]? = some u := ⟨l[j]'(by rw [← HN0.out]; exact hj), List.getElem?_eq_getElem _⟩
      obtain ⟨g, rfl, hg1, hg2, hc⟩ := HL.out (by rw [← HN0.out]; omega)
      have hcc := fun o v hv => (HB.out.cell (p := ⟨g, j * 4 + o, none⟩) (by show g < w.heap.size; omega)).trans (hc j u hu o v hv)
      have d0 : wr.cell? ⟨g, j * 4, none⟩ = some (.int .i64 u.at_) := hcc 0 _ rfl
      have d1 : wr.cell? ⟨g, j * 4 + 1, none⟩ = some (.int .i64 u.to) := hcc 1 _ rfl
      have d2 : wr.cell? ⟨g, j * 4 + 2, none⟩ = some (.bool u.write) := hcc 2 _ rfl
      have d3 : wr.cell? ⟨g, j * 4 + 3, none⟩ = some (.int .i64 u.far) := hcc 3 _ rfl
      have CC := Lib.hid (w61_any u i q1 q2 wr (R1.out.below HB.out R1.out.lt) (R2.out.below HB.out R2.out.lt))
      have hdr : l.drop j = u :: l.drop (j + 1) := by
        have hj' : j < l.length := by rw [← HN0.out]; exact hj
        rw [List.drop_eq_getElem_cons hj']
        congr 1
        rw [List.getElem?_eq_getElem hj'] at hu
        exact Option.some.inj hu
      obtain ⟨k, hk⟩ : ∃ k, k = j + 1 := ⟨_, rfl⟩
      have ek : IntKind.i64.wrap ((j : Int) + 1) = (k : Int) := by rw [IntKind.wrap_i64]; omega
      have HK := Lib.hid hk
      have HE2 : Hid (anyW i l = ((u.to == i && u.write) || anyW i (l.drop k))) := by rw [hk]; unfold Hid; rw [HE.out, hdr]; rfl
      obtain ⟨p, hp⟩ : ∃ p, p = (u.to == i && u.write) := ⟨_, rfl⟩
      rw [← hp] at CC HE2
      simp only [mvv] at CC
      clear hu hc hcc hdr hp hk HE
      cases p with
      | true =>
        have FE : Hid (∃ r : Int, Ending.returned (Value.int .i64 (j : Int)) = .returned (.int .i64 r) ∧ decide (0 ≤ r) = anyW i l) := ⟨j, rfl, by rw [HE2.out]; simp⟩
        go_wp2_with fail
        refine CC.out.mono ?_
        rintro e w2 ⟨rfl, h2⟩
        have H2 := Lib.hid (HB.out.trans (h2.mono HB.out.size))
        clear h2 CC d0 d1 d2 d3 HB
        go_wp2_with fail
        (first | go_ret | go_ret2)
        obtain ⟨r, h1, h2⟩ := FE.out
        exact ⟨r, h1, h2, H2.out⟩
      | false =>
        go_wp2_with fail
        refine CC.out.mono ?_
        rintro e w2 ⟨rfl, h2⟩
        have H2 := Lib.hid (HB.out.trans (h2.mono HB.out.size))
        clear h2 CC d0 d1 d2 d3 HB
        go_wp2_with fail
        have hk := HK.out
        go_roundg (n - k)
        case measure => omega
        case rel => exact ⟨k, rfl, by omega, by omega, H2.out, by unfold Hid; rw [HE2.out]; simp⟩
    · have hd1 : decide ((j : Int) < (n : Int)) = false := decide_eq_false (by omega)
      have FE : Hid (anyW i l = false) := by
        unfold Hid
        rw [HE.out, List.drop_eq_nil_of_le (by rw [← HN0.out]; omega)]
        rfl
      clear HE
      go_wp2_with fail
      (first | go_ret | go_ret2)
      exact ⟨-1, by first | rfl | simp, by rw [FE.out]; rfl, HB.out⟩
set_option maxHeartbeats 4000000 in
set_option maxRecDepth 100000 in
theorem con_any (i : Int) (q1 q2 : Nat) (w : World) (r1 : RowB w q1 3 #[.int .i64 i]) (r2 : RowB w q2 97 #[.func (.func 42) #[] #[]]) (A : Option Addr) (c lo hi : Nat) (l : List Mn) (hl : RowAt w lo hi mnC 4 A l) (hh : hi ≤ w.heap.size) (hn : l.length ≤ 1000000000) :
    Calls Try.prog 60 #[.slice A l.length c, .func (.func 61) #[] #[.pointer (some ⟨q1, 0, none⟩), .pointer (some ⟨q2, 0, none⟩)]] w fun e w' => e = .returned (.bool (anyW i l)) ∧ Below w.heap.size w w' := by
  have CC := Lib.hid (idx_any i q1 q2 w r1 r2 A c lo hi l hl hh hn)
  clear r1 r2 hl
  go_enter Try.func60, Try.ntmps60
  go_wp2_with fail
  refine CC.out.mono ?_
  rintro e w2 ⟨r, rfl, hr, hb⟩
  have HR := Lib.hid hr
  have HB := Lib.hid hb
  clear hr hb CC
  go_wp2_with fail
  (first | go_ret | go_ret2)
  exact ⟨by rw [← HR.out]; first | rfl | simp, HB.out⟩
end Sc
end Go.Proofs.Ytnefnnoleeeedaa
