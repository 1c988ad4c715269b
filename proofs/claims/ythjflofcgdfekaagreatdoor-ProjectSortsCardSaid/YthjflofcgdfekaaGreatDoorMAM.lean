import Derived.Test.YthjflofcgdfekaaGreatDoorMAL
import Derived.Shelf.SlSortCmp.QuietGrown
namespace Go.Proofs.YthjflofcgdfekaaGreatDoor
open Go.RowKit Go.Sort Go.Proofs Go.Shelf
namespace Sd
def Srt (d : Nat → De) (a b : Nat) : Prop := ∀ i j, a ≤ i → i < j → j < b → LT (d j) (d i) = false
theorem srt_of {d : Array De} (hT : Tied d) {a b : Nat} (hb : b ≤ d.size) (h : SortedIn (ltOf cf) a b d) : Srt (at_ d) a b := fun i j hi hij hj => by
  have h1 := h i j hi hij hj
  rw [ltcf] at h1
  have h2 := hT i j hij (by omega)
  have := ord.neg (at_ d i) (at_ d j)
  unfold LT at_ at *
  simp only [decide_eq_false_iff_not] at *
  omega
theorem lt_asymm {x y : De} (h : LT x y = true) : LT y x = false := by
  have := ord.neg x y
  unfold LT at *
  simp only [decide_eq_true_iff, decide_eq_false_iff_not] at *
  omega
theorem le_trans_ {x y z : De} (h : LT y x = false) (g : LT z y = false) : LT z x = false := swoLT.ntrans z y x g h
theorem lt_le {x y z : De} (h : LT x y = true) (g : LT z y = false) : LT z x = false := le_trans_ (lt_asymm h) g
theorem le_refl_ (x : De) : LT x x = false := swoLT.irrefl x
theorem lt_of_le {x y z : De} (h : LT y x = true) (g : LT y z = false) : LT z x = true := by
  have := ord.tr z y x
  have := ord.neg y z
  unfold LT at *
  simp only [decide_eq_true_iff, decide_eq_false_iff_not] at *
  omega
theorem lt_of_lt_le {x y z : De} (h : LT y x = true) (g : LT z x = false) : LT y z = true := by
  have := ord.tr y x z
  have := ord.neg z x
  unfold LT at *
  simp only [decide_eq_true_iff, decide_eq_false_iff_not] at *
  omega
theorem rot_tied {d dk : Array De} {s m e : Nat} (hT : Tied d) (hs : dk.size = d.size) (hE : ∀ x, dk[x]! = rot (at_ d) s m e x) (h1 : s ≤ m) (h2 : m ≤ e) (h3 : e ≤ d.size) (hx : ∀ x y, s ≤ x → x < m → m ≤ y → y < e → LT (at_ d y) (at_ d x) = true) : Tied dk := by
  intro i j hij hj he
  rw [hs] at hj
  have e1 : at_ dk i = rot (at_ d) s m e i := hE i
  have e2 : at_ dk j = rot (at_ d) s m e j := hE j
  rw [e1, e2] at he ⊢
  have key : ∀ p q, p < q → q < d.size → cf (at_ d p) (at_ d q) = 0 → (at_ d p).t < (at_ d q).t := hT
  unfold rot at he ⊢
  by_cases ci : s ≤ i ∧ i < e
  · rw [if_pos ci] at he ⊢
    by_cases cj : s ≤ j ∧ j < e
    · rw [if_pos cj] at he ⊢
      by_cases di : i < s + (e - m)
      · rw [if_pos di] at he ⊢
        by_cases dj : j < s + (e - m)
        · rw [if_pos dj] at he ⊢
          exact key _ _ (by omega) (by omega) he
        · rw [if_neg dj] at he
          have := tied_lt hT (i := j - (e - m)) (j := i + m - s) (by omega) (by omega) (hx _ _ (by omega) (by omega) (by omega) (by omega))
          omega
      · rw [if_neg di, if_neg (by omega)] at he
        rw [if_neg di, if_neg (by omega)]
        exact key _ _ (by omega) (by omega) he
    · rw [if_neg cj] at he ⊢
      split at he
      · rename_i di
        rw [if_pos di]
        exact key _ _ (by omega) hj he
      · rename_i di
        rw [if_neg di]
        exact key _ _ (by omega) hj he
  · rw [if_neg ci] at he ⊢
    by_cases cj : s ≤ j ∧ j < e
    · rw [if_pos cj] at he ⊢
      split at he
      · rename_i dj
        rw [if_pos dj]
        exact key _ _ (by omega) (by omega) he
      · rename_i dj
        rw [if_neg dj]
        exact key _ _ (by omega) (by omega) he
    · rw [if_neg cj] at he ⊢
      exact key _ _ hij hj he
theorem Srt.le {d : Nat → De} {a b : Nat} (h : Srt d a b) {i j : Nat} (hi : a ≤ i) (hij : i ≤ j) (hj : j < b) : LT (d j) (d i) = false := by
  rcases Nat.lt_or_ge i j with g | g
  · exact h i j hi g hj
  · obtain rfl : i = j := by omega
    exact le_refl_ _
theorem merge_left {d d2 : Nat → De} {a b i : Nat} (h : Srt d (a + 1) b) (h0 : a + 1 ≤ i) (hib : i ≤ b) (h1 : ∀ x, a + 1 ≤ x → x < i → LT (d x) (d a) = true) (h2 : ∀ x, i ≤ x → x < b → LT (d x) (d a) = false) (hd : ∀ x, d2 x = rot d a (a + 1) i x) : Srt d2 a b := by
  have e1 : ∀ x, a ≤ x → x + 1 < i → d2 x = d (x + 1) := fun x g1 g2 => by rw [hd]; unfold rot; rw [if_pos (by omega), if_pos (by omega)]; congr 1; omega
  have e2 : d2 (i - 1) = d a := by rw [hd]; unfold rot; rw [if_pos (by omega), if_neg (by omega)]; congr 1; omega
  have e3 : ∀ x, i ≤ x → d2 x = d x := fun x g => by rw [hd]; unfold rot; rw [if_neg (by omega)]
  intro x y hx hxy hy
  by_cases c1 : y + 1 < i
  · rw [e1 y (by omega) c1, e1 x hx (by omega)]
    exact h _ _ (by omega) (by omega) (by omega)
  · by_cases c2 : y < i
    · obtain rfl : y = i - 1 := by omega
      rw [e2, e1 x hx (by omega)]
      exact lt_asymm (h1 _ (by omega) (by omega))
    · rw [e3 y (by omega)]
      by_cases c3 : x + 1 < i
      · rw [e1 x hx c3]
        exact h.le (by omega) (by omega) hy
      · by_cases c4 : x < i
        · obtain rfl : x = i - 1 := by omega
          rw [e2]
          exact h2 _ (by omega) hy
        · rw [e3 x (by omega)]
          exact h _ _ (by omega) hxy hy
theorem merge_right {d d2 : Nat → De} {a m i : Nat} (h : Srt d a m) (h0 : a ≤ i) (him : i ≤ m) (h1 : ∀ x, a ≤ x → x < i → LT (d m) (d x) = false) (h2 : ∀ x, i ≤ x → x < m → LT (d m) (d x) = true) (hd : ∀ x, d2 x = rot d i m (m + 1) x) : Srt d2 a (m + 1) := by
  have e1 : ∀ x, x < i → d2 x = d x := fun x g => by rw [hd]; unfold rot; rw [if_neg (by omega)]
  have e2 : d2 i = d m := by rw [hd]; unfold rot; rw [if_pos (by omega), if_pos (by omega)]; congr 1; omega
  have e3 : ∀ x, i < x → x ≤ m → d2 x = d (x - 1) := fun x g1 g2 => by rw [hd]; unfold rot; rw [if_pos (by omega), if_neg (by omega)]; congr 1; omega
  intro x y hx hxy hy
  by_cases c1 : y < i
  · rw [e1 y c1, e1 x (by omega)]
    exact h _ _ hx hxy (by omega)
  · by_cases c2 : y = i
    · subst c2
      rw [e2, e1 x hxy]
      exact h1 _ hx hxy
    · rw [e3 y (by omega) (by omega)]
      by_cases c3 : x < i
      · rw [e1 x c3]
        exact h.le hx (by omega) (by omega)
      · by_cases c4 : x = i
        · subst c4
          rw [e2]
          exact lt_asymm (h2 _ (by omega) (by omega))
        · rw [e3 x (by omega) (by omega)]
          exact h _ _ (by omega) (by omega) (by omega)
structure Cutat (d : Nat → De) (a m b mid s0 r0 s : Nat) : Prop where
  am : a < m
  mb : m < b
  hmid : mid = (a + b) / 2
  hs : s0 ≤ s ∧ s ≤ r0
  start : (mid < m ∧ s0 = mid + m - b ∧ r0 = mid) ∨ (m ≤ mid ∧ s0 = a ∧ r0 = m)
  lo : ∀ c, s0 ≤ c → c < s → LT (d (mid + m - 1 - c)) (d c) = false
  hi : ∀ c, s ≤ c → c < r0 → LT (d (mid + m - 1 - c)) (d c) = true
variable {d d1 : Nat → De} {a m b mid s0 r0 s : Nat}
theorem Cutat.places (h : Cutat d a m b mid s0 r0 s) : a ≤ s ∧ s ≤ m ∧ s ≤ mid ∧ mid ≤ mid + m - s ∧ m ≤ mid + m - s ∧ mid + m - s ≤ b ∧ a ≤ mid ∧ mid < b := by
  have := h.am
  have := h.mb
  have := h.hmid
  have := h.hs
  rcases h.start with ⟨_, _, _⟩ | ⟨_, _, _⟩ <;> omega
theorem Cutat.turned (h : Cutat d a m b mid s0 r0 s) (h1 : Srt d a m) (h2 : Srt d m b) (hd : ∀ x, d1 x = rot d s m (mid + m - s) x) :
    Srt d1 a s ∧ Srt d1 s mid ∧ Srt d1 mid (mid + m - s) ∧ Srt d1 (mid + m - s) b ∧ ∀ x y, a ≤ x → x < mid → mid ≤ y → y < b → LT (d1 y) (d1 x) = false := by
  obtain ⟨p1, p2, p3, p4, p5, p6, p7, p8⟩ := h.places
  obtain ⟨q1, q2⟩ := h.hs
  have am := h.am
  have mb := h.mb
  have e1 : ∀ x, x < s → d1 x = d x := fun x g => by rw [hd]; unfold rot; rw [if_neg (by omega)]
  have e2 : ∀ x, s ≤ x → x < mid → d1 x = d (x + m - s) := fun x g1 g2 => by rw [hd]; unfold rot; rw [if_pos (by omega), if_pos (by omega)]
  have e3 : ∀ x, mid ≤ x → x < mid + m - s → d1 x = d (x - (mid - s)) := fun x g1 g2 => by rw [hd]; unfold rot; rw [if_pos (by omega), if_neg (by omega)]; congr 1; omega
  have e4 : ∀ x, mid + m - s ≤ x → d1 x = d x := fun x g => by rw [hd]; unfold rot; rw [if_neg (by omega)]
  refine ⟨fun x y hx hxy hy => ?_, fun x y hx hxy hy => ?_, fun x y hx hxy hy => ?_, fun x y hx hxy hy => ?_, fun x y hx hxm hy hyb => ?_⟩
  · rw [e1 y hy, e1 x (by omega)]; exact h1 _ _ hx hxy (by omega)
  · rw [e2 y (by omega) hy, e2 x hx (by omega)]; exact h2 _ _ (by omega) (by omega) (by omega)
  · rw [e3 y (by omega) hy, e3 x hx (by omega)]; exact h1 _ _ (by omega) (by omega) (by omega)
  · rw [e4 y (by omega), e4 x hx]; exact h2 _ _ (by omega) hxy hy
  · by_cases cx : x < s
    · rw [e1 x cx]
      by_cases cy : y < mid + m - s
      · rw [e3 y hy cy]; exact h1 _ _ hx (by omega) (by omega)
      · rw [e4 y (by omega)]
        by_cases c0 : s0 < s
        · have g := h.lo (s - 1) (by omega) (by omega)
          rw [show mid + m - 1 - (s - 1) = mid + m - s by omega] at g
          have g1 := h1.le hx (show x ≤ s - 1 by omega) (by omega)
          have g2 := h2.le (show m ≤ mid + m - s by omega) (show mid + m - s ≤ y by omega) hyb
          exact le_trans_ (le_trans_ g1 g) g2
        · rcases h.start with ⟨_, _, _⟩ | ⟨_, _, _⟩ <;> omega
    · rw [e2 x (by omega) hxm]
      by_cases cy : y < mid + m - s
      · rw [e3 y hy cy]
        by_cases c0 : s < r0
        · have g := h.hi s (Nat.le_refl _) c0
          have g1 := h2.le (show m ≤ x + m - s by omega) (show x + m - s ≤ mid + m - 1 - s by omega) (by omega)
          have g2 := h1.le (show a ≤ s by omega) (show s ≤ y - (mid - s) by omega) (by omega)
          exact le_trans_ g1 (lt_le g g2)
        · rcases h.start with ⟨_, _, _⟩ | ⟨_, _, _⟩ <;> omega
      · rw [e4 y (by omega)]; exact h2 _ _ (by omega) (by omega) hyb
theorem Cutat.less (h : Cutat d a m b mid s0 r0 s) (h1 : Srt d a m) (h2 : Srt d m b) : ∀ x y, s ≤ x → x < m → m ≤ y → y < mid + m - s → LT (d y) (d x) = true := fun x y hx hxm hy hye => by
  obtain ⟨p1, p2, p3, p4, p5, p6, p7, p8⟩ := h.places
  have hr : s < r0 := by
    have := h.hs
    rcases h.start with ⟨_, _, _⟩ | ⟨_, _, _⟩ <;> omega
  have g := h.hi s (Nat.le_refl _) hr
  have g1 := h1.le p1 hx hxm
  have g2 := h2.le hy (show y ≤ mid + m - 1 - s by omega) (by omega)
  have k1 : LT (d (mid + m - 1 - s)) (d x) = true := lt_of_lt_le g g1
  exact lt_of_le k1 g2
theorem srt_join {d : Nat → De} {a p b : Nat} (h1 : Srt d a p) (h2 : Srt d p b) (h3 : ∀ x y, a ≤ x → x < p → p ≤ y → y < b → LT (d y) (d x) = false) : Srt d a b := by
  intro x y hx hxy hy
  by_cases c1 : y < p
  · exact h1 _ _ hx hxy c1
  · by_cases c2 : x < p
    · exact h3 _ _ hx c2 (by omega) hy
    · exact h2 _ _ (by omega) hxy hy
end Sd
end Go.Proofs.YthjflofcgdfekaaGreatDoor
namespace Go.Proofs.YthjflofcgdfekaaGreatDoor
open Go.RowKit Go.Sort Go.Proofs Go.Shelf
namespace Sd
theorem swk_grown_cells {w0 W : World} {blk off : Nat} {d0 dk : Array De} (S : SWK enc3 3 w0 blk off dk W) (R : RowK enc3 3 w0 blk off d0) (hs : dk.size = d0.size) (i : Nat) (hi : i < dk.size) :
    (∀ n os, (Go.Sort.grow (W.drewN n) os).cell? ⟨blk, off + i * 3, none⟩ = some (.string dk[i]!.m)) ∧ (∀ n os, (Go.Sort.grow (W.drewN n) os).cell? ⟨blk, off + i * 3 + 1, none⟩ = some (.int .i64 dk[i]!.a)) ∧ (∀ n os, (Go.Sort.grow (W.drewN n) os).cell? ⟨blk, off + i * 3 + 2, none⟩ = some (.int .i64 dk[i]!.c)) :=
  ⟨fun n os => (swk_cells (S.grown n os) R hs i hi).1.1, fun n os => (swk_cells (S.grown n os) R hs i hi).1.2.1, fun n os => (swk_cells (S.grown n os) R hs i hi).1.2.2⟩
theorem rot_next {d dk : Array De} {a k : Nat} (h : ∀ x, dk[x]! = rot (at_ d) a (a + 1) (k + 1) x) (hk : a ≤ k) (hs : k + 1 < dk.size) (x : Nat) : (swp dk k (k + 1))[x]! = rot (at_ d) a (a + 1) (k + 1 + 1) x := by
  rw [swp_get dk (by omega) hs, h, h, h]
  unfold rot at_
  (repeat' split) <;> first | omega | rfl | (congr 1; omega)
set_option maxHeartbeats 8000000 in
set_option maxRecDepth 1000000 in
theorem symMerge_left (blk off cap a m b : Nat) (d0 d : Array De) (w0 w : World)
    (R : RowK enc3 3 w0 blk off d0) (hs : d0.size = d.size) (S : SWK enc3 3 w0 blk off d w) (ham1 : a + 1 ≤ m) (ham2 : m ≤ a + 1) (hmb : a + 1 < b) (hb : b ≤ d.size) (hsz : d.size < 4611686018427387904) (hS : Srt (at_ d) (a + 1) b) (hT : Tied d) :
    Calls Tryz.prog 131 #[.slice (some ⟨blk, off, none⟩) d.size cap, .int .i64 a, .int .i64 m, .int .i64 b, .func (.func 62) #[] #[]] w fun e w' => e = .returned (.tuple #[]) ∧ ∃ d', SWK enc3 3 w0 blk off d' w' ∧ d'.size = d.size ∧ PermIn a b d d' ∧ Tied d' ∧ Srt (at_ d') a b := by
  have e57 := enter62
  have mixed : Tryz.prog.follows .mixedOrders = true := by kernel_rfl
  have S0 : Aside (SWK enc3 3 w0 blk off d w) := S
  have HS := Lib.hid hS
  have HTD := Lib.hid hT
  have g1 : ((m : Int) - (a : Int) == 1) = true := by simpa using (by omega : (m : Int) - (a : Int) = 1)
  clear S hS hT
  go_enter Tryz.func131, Tryz.ntmps131
  go_wp2_with fail
  go_loopg [10, 11] (b - a) (fun kx s10 s11 wr => ∃ (i j : Nat), s10 = .int .i64 i ∧ s11 = .int .i64 j ∧ a + 1 ≤ i ∧ i ≤ j ∧ j ≤ b ∧ j - i ≤ kx ∧ Aside (SWK enc3 3 w0 blk off d wr) ∧ Hid (∀ x, a + 1 ≤ x → x < i → LT (at_ d x) (at_ d a) = true) ∧ Hid (∀ x, j ≤ x → x < b → LT (at_ d x) (at_ d a) = false))
  case atStart => exact ⟨m, b, rfl, rfl, by omega, by omega, by omega, by omega, S0, fun x h1 h2 => by omega, fun x h1 h2 => by omega⟩
  case round =>
    clear S0
    obtain ⟨i, j, rfl, rfl, hai, hij, hjb, hkx, S1, H1, H2⟩ := hrel
    by_cases hlt : i < j
    · have hltz : (i : Int) < (j : Int) := by omega
      obtain ⟨x0, x1, xc⟩ := swk_grown_cells S1.out R (by omega) ((i + j) / 2) (by omega)
      obtain ⟨y0, y1, yc⟩ := swk_grown_cells S1.out R (by omega) a (by omega)
      obtain ⟨X, hX⟩ : ∃ X, X = d[(i + j) / 2]! := ⟨_, rfl⟩
      obtain ⟨Y, hY⟩ : ∃ Y, Y = d[a]! := ⟨_, rfl⟩
      rw [← hX] at x0 x1 xc
      rw [← hY] at y0 y1 yc
      have HX := Lib.hid hX
      have HY := Lib.hid hY
      have S2 : Aside (∀ n os, SWK enc3 3 w0 blk off d (Go.Sort.grow (wr.drewN n) os)) := fun n os => S1.out.grown n os
      have b1 : ((i : Int) + (j : Int)) / 2 < (d.size : Int) := by omega
      have p1 : (0 : Int) ≤ ((i : Int) + (j : Int)) / 2 := by omega
      have t1 : (((i : Int) + (j : Int)) / 2).toNat = (i + j) / 2 := by omega
      have b2 : (a : Int) < (d.size : Int) := by omega
      clear hX hY S1
      by_cases hlv : cf X Y < 0
      · go_wp2_with fail
        go_quiet_grown (first | (go_at_call 62; refine Calls.grown_of (lt23_any X Y _)))
        have S3 := S2.out nq osq
        have S4 : Aside _ := S3
        clear S2 S3 x0 x1 y0 y1 xc yc
        go_wp2_with fail
        have R1 : Hid (∀ x, a + 1 ≤ x → x < (i + j) / 2 + 1 → LT (at_ d x) (at_ d a) = true) := fun x g1 g2 => by
          have hl : LT (at_ d ((i + j) / 2)) (at_ d a) = true := by unfold at_; rw [← HX.out, ← HY.out]; exact cmp_yes hlv
          rcases Nat.lt_or_ge x i with h | h
          · exact H1.out x g1 h
          · have g := HS.out.le (i := x) (j := (i + j) / 2) g1 (by omega) (by omega)
            by_cases hq : LT (at_ d x) (at_ d a) = true
            · exact hq
            · have := le_trans_ (by simpa using hq) g
              rw [hl] at this
              cases this
        go_roundg (j - ((i + j) / 2 + 1))
        case measure => omega
        case rel => exact ⟨(i + j) / 2 + 1, j, by go_num, rfl, by omega, by omega, by omega, by omega, S4, R1.out, H2.out⟩
      · have hdv : decide (cf X Y < 0) = false := by simpa using hlv
        clear hlv
        go_wp2_with fail
        go_quiet_grown (first | (go_at_call 62; refine Calls.grown_of (lt23_any X Y _)))
        have S3 := S2.out nq osq
        have S4 : Aside _ := S3
        clear S2 S3 x0 x1 y0 y1 xc yc
        go_wp2_with fail
        go_roundg ((i + j) / 2 - i)
        case measure => omega
        case rel => exact ⟨i, (i + j) / 2, rfl, by go_num, by omega, by omega, by omega, by omega, S4, H1.out, fun x g1 g2 => by
          have hl : LT (at_ d ((i + j) / 2)) (at_ d a) = false := cmp_no HTD.out (by omega) (by omega) (by rw [← HX.out, ← HY.out]; exact hdv)
          have g := HS.out.le (i := (i + j) / 2) (j := x) (by omega) g1 g2
          exact le_trans_ hl g⟩
    · obtain rfl : i = j := by omega
      clear hlt
      go_wp2_with fail
      go_loopg [13] (i - a) (fun kx s13 wx => ∃ (k : Nat) (dk : Array De), s13 = .int .i64 k ∧ a ≤ k ∧ k + 1 ≤ i ∧ i - k ≤ kx ∧ dk.size = d.size ∧ Aside (SWK enc3 3 w0 blk off dk wx) ∧ Hid (PermIn a b d dk) ∧ Hid (∀ x, dk[x]! = rot (at_ d) a (a + 1) (k + 1) x))
      case atStart => exact ⟨a, d, rfl, by omega, by omega, by omega, rfl, S1, permIn_refl _ _ _, fun x => by unfold rot; (repeat' split) <;> first | omega | rfl | (congr 1; omega)⟩
      case round =>
        clear S1
        obtain ⟨k, dk, rfl, hak, hki, hkx2, hds, S1, HP, HE⟩ := hrel
        by_cases hlt : k + 1 < i
        · have hltz : (k : Int) < (i : Int) - 1 := by omega
          have p1 : (0 : Int) ≤ (k : Int) + 1 := by omega
          have b1 : (k : Int) + 1 < (d.size : Int) := by omega
          have b2 : (k : Int) < (d.size : Int) := by omega
          have t1 : ((k : Int) + 1).toNat = k + 1 := by omega
          have r1 : IntKind.i64.wrap ((k : Int) + 1) = (k : Int) + 1 := by rw [IntKind.wrap_i64]; omega
          have S2 : Aside _ := swk_sw6 S1.out R k (k + 1) (by omega) (by omega)
          obtain ⟨⟨x0, x1, xc⟩, x3, x4, vc⟩ := swk_cells S1.out R (by omega) k (by omega)
          obtain ⟨⟨y0, y1, yc⟩, y3, y4, uc⟩ := swk_cells S1.out R (by omega) (k + 1) (by omega)
          obtain ⟨X, hX⟩ : ∃ X, X = dk[k]! := ⟨_, rfl⟩
          obtain ⟨Y, hY⟩ : ∃ Y, Y = dk[k + 1]! := ⟨_, rfl⟩
          rw [← hX] at x0 x1 xc
          rw [← hY] at y0 y1 yc
          rw [← hX, ← hY] at S2
          obtain ⟨W', hW'⟩ : ∃ W', W' = sw6 wr blk (off + k * 3) (off + (k + 1) * 3) X Y := ⟨_, rfl⟩
          rw [← hW'] at S2
          have EW := Lib.hid hW'
          clear S1 hX hY hW'
          go_wp2_with fail
          go_big_region
          change Exit.inBlock _ _ Exit.normal _ (sw6 wr blk (off + k * 3) (off + (k + 1) * 3) X Y)
          rw [← EW.out]
          clear x0 x1 x3 x4 y0 y1 y3 y4 xc yc vc uc EW
          go_wp2
          go_roundg (i - (k + 1))
          case measure => omega
          case rel => exact ⟨k + 1, swp dk k (k + 1), by go_num, by omega, by omega, by omega, by rw [size_swp]; exact hds, S2, swp_sw HP.out (by omega) (by omega) (by omega) (by omega) hb, rot_next HE.out hak (by omega)⟩
        · have hik : i = k + 1 := by omega
          have hd : decide ((k : Int) < (i : Int) - 1) = false := by simp; omega
          clear hlt
          go_wp2
          refine bodyPost_ret (results_none rfl _ _ _) rfl ?_
          exact ⟨rfl, dk, S1.out, hds, HP.out, rot_tied HTD.out hds HE.out (by omega) (by omega) (by omega) (fun x y h1 h2 h3 h4 => (show x = a by omega) ▸ H1.out y (by omega) (by omega)), merge_left (d := at_ d) (d2 := at_ dk) (i := i) HS.out (by omega) (by omega) H1.out H2.out (by rw [hik]; exact HE.out)⟩
end Sd
end Go.Proofs.YthjflofcgdfekaaGreatDoor
namespace Go.Proofs.YthjflofcgdfekaaGreatDoor
open Go.RowKit Go.Sort Go.Proofs Go.Shelf
namespace Sd
theorem rot_back {d dk : Array De} {m k : Nat} (h : ∀ x, dk[x]! = rot (at_ d) k m (m + 1) x) (hk : 0 < k) (hkm : k ≤ m) (hs : m < dk.size) (x : Nat) : (swp dk k (k - 1))[x]! = rot (at_ d) (k - 1) m (m + 1) x := by
  rw [swp_get dk (by omega) (by omega), h, h, h]
  unfold rot at_
  (repeat' split) <;> first | omega | rfl | (congr 1; omega)
set_option maxHeartbeats 8000000 in
set_option maxRecDepth 1000000 in
theorem symMerge_right (blk off cap a m b : Nat) (d0 d : Array De) (w0 w : World)
    (R : RowK enc3 3 w0 blk off d0) (hs : d0.size = d.size) (S : SWK enc3 3 w0 blk off d w) (ham : a + 2 ≤ m) (hmb1 : m + 1 ≤ b) (hmb2 : b ≤ m + 1) (hb : b ≤ d.size) (hsz : d.size < 4611686018427387904) (hS : Srt (at_ d) a m) (hT : Tied d) :
    Calls Tryz.prog 131 #[.slice (some ⟨blk, off, none⟩) d.size cap, .int .i64 a, .int .i64 m, .int .i64 b, .func (.func 62) #[] #[]] w fun e w' => e = .returned (.tuple #[]) ∧ ∃ d', SWK enc3 3 w0 blk off d' w' ∧ d'.size = d.size ∧ PermIn a b d d' ∧ Tied d' ∧ Srt (at_ d') a b := by
  have e57 := enter62
  have mixed : Tryz.prog.follows .mixedOrders = true := by kernel_rfl
  have S0 : Aside (SWK enc3 3 w0 blk off d w) := S
  have HS := Lib.hid hS
  have HTD := Lib.hid hT
  have g0 : ((m : Int) - (a : Int) == 1) = false := by simpa using (by omega : (m : Int) - (a : Int) ≠ 1)
  have g1 : ((b : Int) - (m : Int) == 1) = true := by simpa using (by omega : (b : Int) - (m : Int) = 1)
  clear S hS hT
  go_enter Tryz.func131, Tryz.ntmps131
  go_wp2_with fail
  go_loopg [14, 15] (m - a) (fun kx s14 s15 wr => ∃ (i j : Nat), s14 = .int .i64 i ∧ s15 = .int .i64 j ∧ a ≤ i ∧ i ≤ j ∧ j ≤ m ∧ j - i ≤ kx ∧ Aside (SWK enc3 3 w0 blk off d wr) ∧ Hid (∀ x, a ≤ x → x < i → LT (at_ d m) (at_ d x) = false) ∧ Hid (∀ x, j ≤ x → x < m → LT (at_ d m) (at_ d x) = true))
  case atStart => exact ⟨a, m, rfl, rfl, by omega, by omega, by omega, by omega, S0, fun x h1 h2 => by omega, fun x h1 h2 => by omega⟩
  case round =>
    clear S0
    obtain ⟨i, j, rfl, rfl, hai, hij, hjm, hkx, S1, H1, H2⟩ := hrel
    by_cases hlt : i < j
    · have hltz : (i : Int) < (j : Int) := by omega
      obtain ⟨x0, x1, xc⟩ := swk_grown_cells S1.out R (by omega) m (by omega)
      obtain ⟨y0, y1, yc⟩ := swk_grown_cells S1.out R (by omega) ((i + j) / 2) (by omega)
      obtain ⟨X, hX⟩ : ∃ X, X = d[m]! := ⟨_, rfl⟩
      obtain ⟨Y, hY⟩ : ∃ Y, Y = d[(i + j) / 2]! := ⟨_, rfl⟩
      rw [← hX] at x0 x1 xc
      rw [← hY] at y0 y1 yc
      have HX := Lib.hid hX
      have HY := Lib.hid hY
      have S2 : Aside (∀ n os, SWK enc3 3 w0 blk off d (Go.Sort.grow (wr.drewN n) os)) := fun n os => S1.out.grown n os
      have b1 : ((i : Int) + (j : Int)) / 2 < (d.size : Int) := by omega
      have p1 : (0 : Int) ≤ ((i : Int) + (j : Int)) / 2 := by omega
      have t1 : (((i : Int) + (j : Int)) / 2).toNat = (i + j) / 2 := by omega
      have b2 : (m : Int) < (d.size : Int) := by omega
      clear hX hY S1
      by_cases hlv : cf X Y < 0
      · go_wp2_with fail
        go_quiet_grown (first | (go_at_call 62; refine Calls.grown_of (lt23_any X Y _)))
        have S3 := S2.out nq osq
        have S4 : Aside _ := S3
        clear S2 S3 x0 x1 y0 y1 xc yc
        go_wp2_with fail
        have R2 : Hid (∀ x, (i + j) / 2 ≤ x → x < m → LT (at_ d m) (at_ d x) = true) := fun x g1 g2 => by
          have hl : LT (at_ d m) (at_ d ((i + j) / 2)) = true := by unfold at_; rw [← HX.out, ← HY.out]; exact cmp_yes hlv
          have g := HS.out.le (i := (i + j) / 2) (j := x) (by omega) g1 g2
          by_cases hq : LT (at_ d m) (at_ d x) = true
          · exact hq
          · have := le_trans_ g (by simpa using hq)
            rw [hl] at this
            cases this
        go_roundg ((i + j) / 2 - i)
        case measure => omega
        case rel => exact ⟨i, (i + j) / 2, rfl, by go_num, by omega, by omega, by omega, by omega, S4, H1.out, R2.out⟩
      · have hdv : decide (cf X Y < 0) = false := by simpa using hlv
        clear hlv
        go_wp2_with fail
        go_quiet_grown (first | (go_at_call 62; refine Calls.grown_of (lt23_any X Y _)))
        have S3 := S2.out nq osq
        have S4 : Aside _ := S3
        clear S2 S3 x0 x1 y0 y1 xc yc
        go_wp2_with fail
        have R1 : Hid (∀ x, a ≤ x → x < (i + j) / 2 + 1 → LT (at_ d m) (at_ d x) = false) := fun x g1 g2 => by
          have hl : LT (at_ d m) (at_ d ((i + j) / 2)) = false := cmp_no HTD.out (by omega) (by omega) (by rw [← HX.out, ← HY.out]; exact hdv)
          have g := HS.out.le (i := x) (j := (i + j) / 2) g1 (by omega) (by omega)
          exact le_trans_ g hl
        go_roundg (j - ((i + j) / 2 + 1))
        case measure => omega
        case rel => exact ⟨(i + j) / 2 + 1, j, by go_num, rfl, by omega, by omega, by omega, by omega, S4, R1.out, H2.out⟩
    · obtain rfl : i = j := by omega
      clear hlt
      go_wp2_with fail
      go_loopg [17] (m - i) (fun kx s17 wx => ∃ (k : Nat) (dk : Array De), s17 = .int .i64 k ∧ i ≤ k ∧ k ≤ m ∧ k - i ≤ kx ∧ dk.size = d.size ∧ Aside (SWK enc3 3 w0 blk off dk wx) ∧ Hid (PermIn a b d dk) ∧ Hid (∀ x, dk[x]! = rot (at_ d) k m (m + 1) x))
      case atStart => exact ⟨m, d, rfl, by omega, by omega, by omega, rfl, S1, permIn_refl _ _ _, fun x => by unfold rot; (repeat' split) <;> first | omega | rfl | (congr 1; omega)⟩
      case round =>
        clear S1
        obtain ⟨k, dk, rfl, hik, hkm, hkx2, hds, S1, HP, HE⟩ := hrel
        by_cases hlt : i < k
        · have hltz : (i : Int) < (k : Int) := by omega
          have p1 : (0 : Int) ≤ (k : Int) - 1 := by omega
          have b1 : (k : Int) - 1 < (d.size : Int) := by omega
          have b2 : (k : Int) < (d.size : Int) := by omega
          have t1 : ((k : Int) - 1).toNat = k - 1 := by omega
          have r1 : IntKind.i64.wrap ((k : Int) - 1) = (k : Int) - 1 := by rw [IntKind.wrap_i64]; omega
          have S2 : Aside _ := swk_sw6 S1.out R k (k - 1) (by omega) (by omega)
          obtain ⟨⟨x0, x1, xc⟩, x3, x4, vc⟩ := swk_cells S1.out R (by omega) k (by omega)
          obtain ⟨⟨y0, y1, yc⟩, y3, y4, uc⟩ := swk_cells S1.out R (by omega) (k - 1) (by omega)
          obtain ⟨X, hX⟩ : ∃ X, X = dk[k]! := ⟨_, rfl⟩
          obtain ⟨Y, hY⟩ : ∃ Y, Y = dk[k - 1]! := ⟨_, rfl⟩
          rw [← hX] at x0 x1 xc
          rw [← hY] at y0 y1 yc
          rw [← hX, ← hY] at S2
          obtain ⟨W', hW'⟩ : ∃ W', W' = sw6 wr blk (off + k * 3) (off + (k - 1) * 3) X Y := ⟨_, rfl⟩
          rw [← hW'] at S2
          have EW := Lib.hid hW'
          have KK : ((k - 1 : Nat) : Int) = (k : Int) - 1 := by omega
          have HK := Lib.hid KK
          clear S1 hX hY hW' KK
          go_wp2_with fail
          go_big_region
          change Exit.inBlock _ _ Exit.normal _ (sw6 wr blk (off + k * 3) (off + (k - 1) * 3) X Y)
          rw [← EW.out]
          clear x0 x1 x3 x4 y0 y1 y3 y4 xc yc vc uc EW
          go_wp2
          go_roundg (k - 1 - i)
          case measure => omega
          case rel => exact ⟨k - 1, swp dk k (k - 1), by rw [HK.out], by omega, by omega, by omega, by rw [size_swp]; exact hds, S2, swp_sw HP.out (by omega) (by omega) (by omega) (by omega) hb, rot_back HE.out (by omega) hkm (by omega)⟩
        · have hle : (k : Int) ≤ (i : Int) := by omega
          have hik2 : Hid (i = k) := by unfold Hid; omega
          clear hlt
          go_wp2
          refine bodyPost_ret (results_none rfl _ _ _) rfl ?_
          refine ⟨rfl, dk, S1.out, hds, HP.out, rot_tied HTD.out hds HE.out (by omega) (by omega) (by omega) (fun x y h1 h2 h3 h4 => (show y = m by omega) ▸ H2.out x (by have := hik2.out; omega) h2), ?_⟩
          have hbm : b = m + 1 := by omega
          rw [hbm]
          exact merge_right (d := at_ d) (d2 := at_ dk) (i := i) HS.out (by omega) (by omega) H1.out H2.out (by rw [hik2.out]; exact HE.out)
end Sd
end Go.Proofs.YthjflofcgdfekaaGreatDoor
