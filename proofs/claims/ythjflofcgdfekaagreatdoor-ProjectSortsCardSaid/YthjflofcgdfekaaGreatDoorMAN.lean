import Derived.Test.YthjflofcgdfekaaGreatDoorMAM
import Derived.Deep.Cut
namespace Go.Proofs.YthjflofcgdfekaaGreatDoor
open Go.RowKit Go.Sort Go.Proofs Go.Shelf
namespace Sd
def Merges (blk off cap : Nat) (_d0 : Array De) (w0 : World) (a m b : Nat) (d : Array De) (w : World) : Prop :=
  Calls Tryz.prog 131 #[.slice (some ⟨blk, off, none⟩) d.size cap, .int .i64 a, .int .i64 m, .int .i64 b, .func (.func 62) #[] #[]] w fun e w' => e = .returned (.tuple #[]) ∧ ∃ d', SWK enc3 3 w0 blk off d' w' ∧ d'.size = d.size ∧ PermIn a b d d' ∧ Tied d' ∧ Srt (at_ d') a b
theorem rot_none {d : Nat → De} {s m e : Nat} (h : ¬ (s < m ∧ m < e)) (hs : s ≤ m) (he : m ≤ e) (x : Nat) : d x = rot d s m e x := by
  unfold rot
  (repeat' split) <;> first | omega | rfl | (congr 1; omega)
theorem srt_keep {d1 d2 : Array De} {lo hi a b : Nat} (h : PermIn lo hi d1 d2) (ho : b ≤ lo ∨ hi ≤ a) (g : Srt (at_ d1) a b) : Srt (at_ d2) a b := by
  intro x y hx hxy hy
  have e1 : at_ d2 x = at_ d1 x := h.2.1 x (by omega)
  have e2 : at_ d2 y = at_ d1 y := h.2.1 y (by omega)
  rw [e1, e2]
  exact g x y hx hxy hy
theorem join_all {d1 d2 d3 : Array De} {a mid b : Nat} (_hm : a ≤ mid) (_hmb : mid ≤ b) (hb : b ≤ d1.size) (h2 : PermIn a mid d1 d2) (h3 : PermIn mid b d2 d3) (g2 : Srt (at_ d2) a mid) (g3 : Srt (at_ d3) mid b)
    (hx : ∀ x y, a ≤ x → x < mid → mid ≤ y → y < b → LT (at_ d1 y) (at_ d1 x) = false) : Srt (at_ d3) a b := by
  have hb2 : b ≤ d2.size := by rw [h2.1]; exact hb
  refine srt_join (srt_keep h3 (.inl (Nat.le_refl _)) g2) g3 fun x y h4 h5 h6 h7 => ?_
  have e1 : at_ d3 x = at_ d2 x := h3.2.1 x (by omega)
  rw [e1]
  refine permIn_all d2 d3 mid b (fun v => LT v (at_ d2 x) = false) hb2 h3 (fun y' h8 h9 => ?_) y h6 h7
  have e2 : d2[y']! = d1[y']! := h2.2.1 y' (by omega)
  show LT d2[y']! (at_ d2 x) = false
  rw [e2]
  exact permIn_all d1 d2 a mid (fun v => LT (at_ d1 y') v = false) (by omega) h2 (fun x' h10 h11 => hx x' y' h10 h11 h8 h9) x h4 h5
set_option maxHeartbeats 16000000 in
set_option maxRecDepth 1000000 in
theorem symMerge_mid (blk off cap N : Nat) (d0 : Array De) (w0 : World) (R : RowK enc3 3 w0 blk off d0)
    (IH : ∀ (a m b : Nat) (d : Array De) (w : World), Tied d → d0.size = d.size → SWK enc3 3 w0 blk off d w → a < m → m < b → b ≤ d.size → Srt (at_ d) a m → Srt (at_ d) m b → b - a ≤ N → Merges blk off cap d0 w0 a m b d w)
    (a m b : Nat) (d : Array De) (w : World) (hT : Tied d) (hs : d0.size = d.size) (S : SWK enc3 3 w0 blk off d w) (ham : a + 2 ≤ m) (hmb : m + 2 ≤ b) (hb : b ≤ d.size) (hsz : d.size < 4611686018427387904) (hS1 : Srt (at_ d) a m) (hS2 : Srt (at_ d) m b) (hN : b - a ≤ N + 1) :
    Merges blk off cap d0 w0 a m b d w := by
  unfold Merges
  have e57 := enter62
  have mixed : Tryz.prog.follows .mixedOrders = true := by kernel_rfl
  have S0 : Aside (SWK enc3 3 w0 blk off d w) := S
  have HTD := Lib.hid hT
  have HS1 := Lib.hid hS1
  have HS2 := Lib.hid hS2
  have HI := Lib.hid IH
  have g0 : ((m : Int) - (a : Int) == 1) = false := by simpa using (by omega : (m : Int) - (a : Int) ≠ 1)
  have g1 : ((b : Int) - (m : Int) == 1) = false := by simpa using (by omega : (b : Int) - (m : Int) ≠ 1)
  obtain ⟨mid, hmid⟩ : ∃ mid, mid = (a + b) / 2 := ⟨_, rfl⟩
  have hm1 : 2 * mid ≤ a + b := by omega
  have hm2 : a + b ≤ 2 * mid + 1 := by omega
  have HM := Lib.hid hmid
  have M : ((a : Int) + (b : Int)) / 2 = (mid : Int) := by omega
  obtain ⟨s0, r0, hst⟩ : ∃ s0 r0 : Nat, (mid < m ∧ s0 = mid + m - b ∧ r0 = mid) ∨ (m ≤ mid ∧ s0 = a ∧ r0 = m) := by
    rcases Nat.lt_or_ge mid m with h | h
    · exact ⟨_, _, .inl ⟨h, rfl, rfl⟩⟩
    · exact ⟨_, _, .inr ⟨h, rfl, rfl⟩⟩
  have HT := Lib.hid hst
  have k1 : a ≤ s0 := by omega
  have k2 : s0 ≤ r0 := by omega
  have k3 : r0 ≤ m := by omega
  have k4 : r0 ≤ mid := by omega
  have k5 : mid + m ≤ s0 + b := by omega
  clear S hS1 hS2 IH hmid hst hT
  go_enter Tryz.func131, Tryz.ntmps131
  go_upto_if 140 with fail
  go_cut [20, 21] from 141 (fun s20 s21 wx => s20 = .int .i64 s0 ∧ s21 = .int .i64 r0 ∧ wx = w)
  case first =>
    rcases HT.out with ⟨h1, h2, h3⟩ | ⟨h1, h2, h3⟩
    · have h4 : (mid : Int) < (m : Int) := by omega
      have h5 : (mid : Int) + (m : Int) - (b : Int) = (s0 : Int) := by omega
      have h6 := Lib.hid h3
      clear h1 h2 h3
      go_wp2_with fail
      go_meet
      exact ⟨rfl, by rw [h6.out], rfl⟩
    · have h4 : (m : Int) ≤ (mid : Int) := by omega
      have h5 := Lib.hid h2
      have h6 := Lib.hid h3
      clear h1 h2 h3
      go_wp2_with fail
      go_meet
      exact ⟨by rw [h5.out], by rw [h6.out], rfl⟩
  case rest =>
  obtain ⟨rfl, rfl, rfl⟩ := hcut
  go_wp2_with fail
  go_loopg [20, 21] (r0 - s0) (fun kx s20 s21 wr => ∃ (i j : Nat), s20 = .int .i64 i ∧ s21 = .int .i64 j ∧ s0 ≤ i ∧ i ≤ j ∧ j ≤ r0 ∧ j - i ≤ kx ∧ Aside (SWK enc3 3 w0 blk off d wr) ∧ Hid (∀ c, s0 ≤ c → c < i → LT (at_ d (mid + m - 1 - c)) (at_ d c) = false) ∧ Hid (∀ c, j ≤ c → c < r0 → LT (at_ d (mid + m - 1 - c)) (at_ d c) = true))
  case atStart => exact ⟨s0, r0, rfl, rfl, by omega, by omega, by omega, by omega, S0, fun x h1 h2 => by omega, fun x h1 h2 => by omega⟩
  case round =>
    clear S0
    obtain ⟨i, j, rfl, rfl, hai, hij, hjm, hkx, S1, H1, H2⟩ := hrel
    by_cases hlt : i < j
    · have hltz : (i : Int) < (j : Int) := by omega
      obtain ⟨x0, x1, xc⟩ := swk_grown_cells S1.out R (by omega) (mid + m - 1 - (i + j) / 2) (by omega)
      obtain ⟨y0, y1, yc⟩ := swk_grown_cells S1.out R (by omega) ((i + j) / 2) (by omega)
      obtain ⟨X, hX⟩ : ∃ X, X = d[mid + m - 1 - (i + j) / 2]! := ⟨_, rfl⟩
      obtain ⟨Y, hY⟩ : ∃ Y, Y = d[(i + j) / 2]! := ⟨_, rfl⟩
      rw [← hX] at x0 x1 xc
      rw [← hY] at y0 y1 yc
      have HX := Lib.hid hX
      have HY := Lib.hid hY
      have S2 : Aside (∀ n os, SWK enc3 3 w0 blk off d (Go.Sort.grow (wr.drewN n) os)) := fun n os => S1.out.grown n os
      have b1 : ((i : Int) + (j : Int)) / 2 < (d.size : Int) := by omega
      have p1 : (0 : Int) ≤ ((i : Int) + (j : Int)) / 2 := by omega
      have t1 : (((i : Int) + (j : Int)) / 2).toNat = (i + j) / 2 := by omega
      obtain ⟨pc, hpc⟩ : ∃ pc, pc = mid + m - 1 - (i + j) / 2 := ⟨_, rfl⟩
      have b2 : (pc : Int) < (d.size : Int) := by omega
      have t2 : (mid : Int) + (m : Int) - 1 - ((i : Int) + (j : Int)) / 2 = (pc : Int) := by omega
      have r2 : IntKind.i64.wrap (pc : Int) = (pc : Int) := by rw [IntKind.wrap_i64]; omega
      rw [← hpc] at x0 x1 xc
      clear hpc
      clear hX hY S1
      by_cases hlv : cf X Y < 0
      · go_wp2_with fail
        go_quiet_grown (first | (go_at_call 62; refine Calls.grown_of (lt23_any X Y _)))
        have S3 := S2.out nq osq
        have S4 : Aside _ := S3
        clear S2 S3 x0 x1 y0 y1 xc yc t1 t2 r2
        go_wp2_with fail
        have R2 : Hid (∀ c, (i + j) / 2 ≤ c → c < r0 → LT (at_ d (mid + m - 1 - c)) (at_ d c) = true) := fun c g1 g2 => by
          have hl : LT (at_ d (mid + m - 1 - (i + j) / 2)) (at_ d ((i + j) / 2)) = true := by unfold at_; rw [← HX.out, ← HY.out]; exact cmp_yes hlv
          by_cases hq : LT (at_ d (mid + m - 1 - c)) (at_ d c) = true
          · exact hq
          · have u1 := HS1.out.le (i := (i + j) / 2) (j := c) (by omega) g1 (by omega)
            have u2 := HS2.out.le (i := mid + m - 1 - c) (j := mid + m - 1 - (i + j) / 2) (by omega) (by omega) (by omega)
            have := le_trans_ (le_trans_ u1 (by simpa using hq)) u2
            rw [hl] at this
            cases this
        go_roundg ((i + j) / 2 - i)
        case measure => omega
        case rel => exact ⟨i, (i + j) / 2, rfl, by go_num, by omega, by omega, by omega, by omega, S4, H1.out, R2.out⟩
      · have hdv : decide (cf X Y < 0) = false := by simpa using hlv
        clear hlv
        go_wp2_with fail
        go_quiet_grown (first | (go_at_call 62; refine Calls.grown_of (lt23_any X Y _)))
        have S3 := S2.out nq osq
        have S4 : Aside _ := S3
        clear S2 S3 x0 x1 y0 y1 xc yc t1 t2 r2
        go_wp2_with fail
        have R1 : Hid (∀ c, s0 ≤ c → c < (i + j) / 2 + 1 → LT (at_ d (mid + m - 1 - c)) (at_ d c) = false) := fun c g1 g2 => by
          have hl : LT (at_ d (mid + m - 1 - (i + j) / 2)) (at_ d ((i + j) / 2)) = false := cmp_no HTD.out (by omega) (by omega) (by rw [← HX.out, ← HY.out]; exact hdv)
          have u1 := HS1.out.le (i := c) (j := (i + j) / 2) (by omega) (by omega) (by omega)
          have u2 := HS2.out.le (i := mid + m - 1 - (i + j) / 2) (j := mid + m - 1 - c) (by omega) (by omega) (by omega)
          exact le_trans_ (le_trans_ u1 hl) u2
        go_roundg (j - ((i + j) / 2 + 1))
        case measure => omega
        case rel => exact ⟨(i + j) / 2 + 1, j, by go_num, rfl, by omega, by omega, by omega, by omega, S4, R1.out, H2.out⟩
    · obtain rfl : i = j := by omega
      have hC : Cutat (at_ d) a m b mid s0 r0 i := ⟨by omega, by omega, HM.out, ⟨hai, hjm⟩, HT.out, H1.out, H2.out⟩
      obtain ⟨q1, q2, q3, q4, q5, q6, q7, q8⟩ := hC.places
      obtain ⟨e, he⟩ : ∃ e, e = mid + m - i := ⟨_, rfl⟩
      have E : (mid : Int) + (m : Int) - (i : Int) = (e : Int) := by omega
      have hC2 := fun (d1 : Array De) (h : ∀ x, d1[x]! = rot (at_ d) i m e x) => hC.turned (d1 := at_ d1) HS1.out HS2.out (by rw [← he]; exact h)
      have hcl := hC.less HS1.out HS2.out
      have hei : i + e = mid + m := by omega
      rw [← he] at q4 q5 q6 hC2 hcl
      have HCL := Lib.hid hcl
      have HC := Lib.hid hC2
      clear hC2 hC hcl he hlt hai hij hjm H1 H2 k1 k2 k3 k4 k5
      go_upto_region 39 with fail
      obtain ⟨B, hB⟩ : ∃ B : Bool, B = decide (i < m ∧ m < e) := ⟨_, rfl⟩
      have HB := Lib.hid hB
      clear hB
      go_cut [185] from 178 (fun s185 wx => s185 = .bool B ∧ wx = wr)
      case first =>
        by_cases hp : i < m
        · have hp1 : (i : Int) < (m : Int) := by omega
          by_cases hq : m < e
          · have hq1 : (m : Int) < (e : Int) := by omega
            have hr : Hid (B = true) := by unfold Hid; rw [HB.out]; exact decide_eq_true ⟨hp, hq⟩
            clear hp hq
            go_wp2_with fail
            go_meet
            exact ⟨by rw [hr.out], rfl⟩
          · have hq1 : (e : Int) ≤ (m : Int) := by omega
            have hr : Hid (B = false) := by unfold Hid; rw [HB.out]; exact decide_eq_false (fun h => hq h.2)
            clear hp hq
            go_wp2_with fail
            go_meet
            exact ⟨by rw [hr.out]; simp; omega, rfl⟩
        · have hp1 : (m : Int) ≤ (i : Int) := by omega
          have hr : Hid (B = false) := by unfold Hid; rw [HB.out]; exact decide_eq_false (fun h => hp h.1)
          clear hp
          go_wp2_with fail
          go_meet
          exact ⟨by rw [hr.out], rfl⟩
      case rest =>
      obtain ⟨rfl, rfl⟩ := hcut
      go_upto_if 185 with fail
      go_cut [] from 186 (fun wx => ∃ d1 : Array De, Aside (SWK enc3 3 w0 blk off d1 wx) ∧ d1.size = d.size ∧ Hid (PermIn a b d d1 ∧ Tied d1) ∧ Hid (∀ x, d1[x]! = rot (at_ d) i m e x))
      case first =>
        cases B
        · have hr := HB.out
          have hno : ¬ (i < m ∧ m < e) := by simpa using hr.symm
          have HN : Hid (∀ x, d[x]! = rot (at_ d) i m e x) := rot_none (d := at_ d) hno (by omega) (by omega)
          clear hr hno
          go_wp2_with fail
          go_meet
          exact ⟨d, S1, rfl, ⟨permIn_refl _ _ _, HTD.out⟩, HN.out⟩
        · have hr := HB.out
          obtain ⟨hp, hq⟩ : i < m ∧ m < e := by simpa using hr.symm
          clear hr
          go_wp2_with fail
          refine (rotate_any blk off cap i m e 62 #[] d0 d w0 _ R hs S1.out hp hq (by omega) hsz).mono ?_
          rintro en w2 ⟨rfl, d1, s2, z2, p2, x2⟩
          have S2 : Aside _ := s2
          have P2 : Hid (PermIn a b d d1 ∧ Tied d1) := ⟨permIn_mono d d1 i e a b q1 q6 hb p2, rot_tied HTD.out z2 x2 (by omega) (by omega) (by omega) HCL.out⟩
          have X2 := Lib.hid x2
          clear s2 p2 x2
          go_wp2_with fail
          go_meet
          exact ⟨d1, S2, z2, P2, X2⟩
      case rest =>
      obtain ⟨d1, S2, z1, P1T, X1⟩ := hcut
      have P1 := Lib.hid P1T.out.1
      have T1 := Lib.hid P1T.out.2
      clear P1T
      have HC1 := Lib.hid (HC.out d1 X1.out)
      clear S1 HB HC X1
      go_upto_region 41 with fail
      obtain ⟨B2, hB2⟩ : ∃ B : Bool, B = decide (a < i ∧ i < mid) := ⟨_, rfl⟩
      have HB2 := Lib.hid hB2
      clear hB2
      go_cut [199] from 192 (fun s199 wx => s199 = .bool B2 ∧ wx = wc)
      case first =>
        by_cases hp : a < i
        · have hp1 : (a : Int) < (i : Int) := by omega
          by_cases hq : i < mid
          · have hq1 : (i : Int) < (mid : Int) := by omega
            have hr : Hid (B2 = true) := by unfold Hid; rw [HB2.out]; exact decide_eq_true ⟨hp, hq⟩
            clear hp hq
            go_wp2_with fail
            go_meet
            exact ⟨by rw [hr.out], rfl⟩
          · have hq1 : (mid : Int) ≤ (i : Int) := by omega
            have hr : Hid (B2 = false) := by unfold Hid; rw [HB2.out]; exact decide_eq_false (fun h => hq h.2)
            clear hp hq
            go_wp2_with fail
            go_meet
            exact ⟨by rw [hr.out]; simp; omega, rfl⟩
        · have hp1 : (i : Int) ≤ (a : Int) := by omega
          have hr : Hid (B2 = false) := by unfold Hid; rw [HB2.out]; exact decide_eq_false (fun h => hp h.1)
          clear hp
          go_wp2_with fail
          go_meet
          exact ⟨by rw [hr.out], rfl⟩
      case rest =>
      obtain ⟨rfl, rfl⟩ := hcut
      go_upto_if 199 with fail
      go_cut [] from 200 (fun wx => ∃ d2 : Array De, Aside (SWK enc3 3 w0 blk off d2 wx) ∧ d2.size = d.size ∧ Hid (PermIn a mid d1 d2 ∧ Tied d2) ∧ Hid (Srt (at_ d2) a mid))
      case first =>
        cases B2
        · have hr := HB2.out
          have hno : ¬ (a < i ∧ i < mid) := by simpa using hr.symm
          have HN : Hid (Srt (at_ d1) a mid) := by
            obtain ⟨v1, v2, _⟩ := HC1.out
            by_cases ha : a < i
            · obtain rfl : i = mid := by omega
              exact v1
            · obtain rfl : i = a := by omega
              exact v2
          clear hr hno
          go_wp2_with fail
          go_meet
          exact ⟨d1, S2, z1, ⟨permIn_refl _ _ _, T1.out⟩, HN.out⟩
        · have hr := HB2.out
          obtain ⟨hp, hq⟩ : a < i ∧ i < mid := by simpa using hr.symm
          have c := HI.out a i mid d1 _ T1.out (by omega) S2.out hp hq (by omega) HC1.out.1 HC1.out.2.1 (by omega)
          unfold Merges at c
          rw [z1] at c
          have C := Lib.hid c
          clear hr c
          go_wp2_with fail
          refine C.out.mono ?_
          rintro en w2 ⟨rfl, d2, s2, z2, p2, t2, x2⟩
          have S3 : Aside _ := s2
          have P2 : Hid (PermIn a mid d1 d2 ∧ Tied d2) := ⟨p2, t2⟩
          have X2 := Lib.hid x2
          clear s2 p2 t2 x2 C
          go_wp2_with fail
          go_meet
          exact ⟨d2, S3, by omega, P2, X2⟩
      case rest =>
      obtain ⟨d2, S3, z2, P2T, X2⟩ := hcut
      have P2 := Lib.hid P2T.out.1
      have T2 := Lib.hid P2T.out.2
      clear P2T
      clear S2 HB2
      go_upto_region 43 with fail
      obtain ⟨B3, hB3⟩ : ∃ B : Bool, B = decide (mid < e ∧ e < b) := ⟨_, rfl⟩
      have HB3 := Lib.hid hB3
      clear hB3
      go_cut [213] from 206 (fun s213 wx => s213 = .bool B3 ∧ wx = wc)
      case first =>
        by_cases hp : mid < e
        · have hp1 : (mid : Int) < (e : Int) := by omega
          by_cases hq : e < b
          · have hq1 : (e : Int) < (b : Int) := by omega
            have hr : Hid (B3 = true) := by unfold Hid; rw [HB3.out]; exact decide_eq_true ⟨hp, hq⟩
            clear hp hq
            go_wp2_with fail
            go_meet
            exact ⟨by rw [hr.out], rfl⟩
          · have hq1 : (b : Int) ≤ (e : Int) := by omega
            have hr : Hid (B3 = false) := by unfold Hid; rw [HB3.out]; exact decide_eq_false (fun h => hq h.2)
            clear hp hq
            go_wp2_with fail
            go_meet
            exact ⟨by rw [hr.out]; simp; omega, rfl⟩
        · have hp1 : (e : Int) ≤ (mid : Int) := by omega
          have hr : Hid (B3 = false) := by unfold Hid; rw [HB3.out]; exact decide_eq_false (fun h => hp h.1)
          clear hp
          go_wp2_with fail
          go_meet
          exact ⟨by rw [hr.out], rfl⟩
      case rest =>
      obtain ⟨rfl, rfl⟩ := hcut
      have v3 := srt_keep P2.out (a := mid) (b := e) (.inr (Nat.le_refl _)) HC1.out.2.2.1
      have v4 := srt_keep P2.out (a := e) (b := b) (.inr (by omega)) HC1.out.2.2.2.1
      have V3 := Lib.hid v3
      have V4 := Lib.hid v4
      clear v3 v4
      have P12 : Hid (PermIn a b d d2) := permIn_trans _ _ _ _ _ P1.out (permIn_mono d1 d2 a mid a b (Nat.le_refl _) (by omega) (by omega) P2.out)
      cases B3
      · have hr := HB3.out
        have hno : ¬ (mid < e ∧ e < b) := by simpa using hr.symm
        have HN : Hid (Srt (at_ d2) mid b) := by
          by_cases ha : mid < e
          · obtain rfl : e = b := by omega
            exact V3.out
          · obtain rfl : e = mid := by omega
            exact V4.out
        have HF : Hid (Srt (at_ d2) a b) := join_all (d1 := d1) (d2 := d2) (d3 := d2) q7 (Nat.le_of_lt q8) (by omega) P2.out (permIn_refl _ _ _) X2.out HN.out HC1.out.2.2.2.2
        clear hr hno
        go_wp2_with fail
        go_end0
        exact ⟨rfl, d2, S3.out, z2, P12.out, T2.out, HF.out⟩
      · have hr := HB3.out
        obtain ⟨hp, hq⟩ : mid < e ∧ e < b := by simpa using hr.symm
        have c := HI.out mid e b d2 _ T2.out (by omega) S3.out hp hq (by omega) V3.out V4.out (by omega)
        unfold Merges at c
        rw [z2] at c
        have C := Lib.hid c
        clear hr c
        go_wp2_with fail
        refine C.out.mono ?_
        rintro en w2 ⟨rfl, d3, s2, z3, p3, t3, x3⟩
        have T3 := Lib.hid t3
        have S4 : Aside _ := s2
        have P3 : Hid (PermIn a b d d3) := permIn_trans _ _ _ _ _ P12.out (permIn_mono d2 d3 mid b a b q7 (Nat.le_refl _) (by omega) p3)
        have HF : Hid (Srt (at_ d3) a b) := join_all (d1 := d1) (d2 := d2) (d3 := d3) q7 (Nat.le_of_lt q8) (by omega) P2.out p3 X2.out x3 HC1.out.2.2.2.2
        clear s2 p3 t3 x3 C
        go_wp2_with fail
        go_end0
        exact ⟨rfl, d3, S4.out, by omega, P3.out, T3.out, HF.out⟩
theorem symMerge_any (blk off cap : Nat) (d0 : Array De) (w0 : World) (R : RowK enc3 3 w0 blk off d0) (hsz : d0.size < 4611686018427387904) :
    ∀ (N a m b : Nat) (d : Array De) (w : World), Tied d → d0.size = d.size → SWK enc3 3 w0 blk off d w → a < m → m < b → b ≤ d.size → Srt (at_ d) a m → Srt (at_ d) m b → b - a ≤ N → Merges blk off cap d0 w0 a m b d w
  | 0, a, m, b, d, w, _, _, _, h1, h2, _, _, _, hN => by omega
  | N + 1, a, m, b, d, w, hT, hs, S, h1, h2, hb, g1, g2, hN => by
    by_cases c1 : m = a + 1
    · subst c1
      exact symMerge_left blk off cap a _ b d0 d w0 w R hs S (by omega) (by omega) h2 hb (by omega) g2 hT
    · by_cases c2 : b = m + 1
      · exact symMerge_right blk off cap a m b d0 d w0 w R hs S (by omega) (by omega) (by omega) hb (by omega) g1 hT
      · exact symMerge_mid blk off cap N d0 w0 R (fun a m b d w => symMerge_any blk off cap d0 w0 R hsz N a m b d w) a m b d w hT hs S (by omega) (by omega) hb (by omega) g1 g2 hN
end Sd
end Go.Proofs.YthjflofcgdfekaaGreatDoor
namespace Go.Proofs.YthjflofcgdfekaaGreatDoor
open Go.RowKit Go.Sort Go.Proofs Go.Shelf
namespace Sd
theorem ins_any (blk off cap a b : Nat) (d0 d : Array De) (w0 w : World) (R : RowK enc3 3 w0 blk off d0) (hs : d0.size = d.size) (S : SWK enc3 3 w0 blk off d w) (hab : a ≤ b) (hb : b ≤ d.size) (hsz : d.size < 4611686018427387904) (hT : Tied d) :
    Calls Tryz.prog 130 #[.slice (some ⟨blk, off, none⟩) d.size cap, .int .i64 a, .int .i64 b, .func (.func 62) #[] #[]] w fun e w' => e = .returned (.tuple #[]) ∧ ∃ d', SWK enc3 3 w0 blk off d' w' ∧ d'.size = d.size ∧ PermIn a b d d' ∧ Tied d' ∧ Srt (at_ d') a b := by
  have h := insertionSort_holds swocf d a b hab hb
  have hT2 : Tied (insertionSort (ltOf cf) d a b) := insOuter_tied a b b (a + 1) d (by omega) hb hT
  have c := AnyQ.insertionSortCmpFunc ins20 3 Tryz.isAgg75 Tryz.sizeOf75 enc3 enc3_len enc3_one cf 62 #[] blk off cap a b d w enter62 (cmpLays23 blk off d.size w) (S.holds R.hblk R.hH hs.symm) (S.lt R.hblk) hab hb hsz
  change Calls Tryz.prog 130 _ _ _ at c
  refine c.mono ?_
  rintro e w' ⟨rfl, n, os, rfl⟩
  exact ⟨rfl, _, S.on R.hblk n _ os h.1.1, h.1.1, h.1, hT2, srt_of hT2 (by rw [h.1.1]; exact hb) h.2⟩
theorem Srt.less {d : Nat → De} {a b b' : Nat} (h : Srt d a b) (hb : b' ≤ b) : Srt d a b' := fun x y hx hxy hy => h x y hx hxy (by omega)
theorem srt_void {d : Nat → De} {a b : Nat} (h : b ≤ a) : Srt d a b := fun x y hx hxy hy => by omega
def Bl (d : Nat → De) (bs k : Nat) : Prop := ∀ t, t < k → Srt d (t * bs) ((t + 1) * bs)
def Br (d : Nat → De) (bs a n : Nat) : Prop := ∀ t, Srt d (a + t * bs) (min (a + (t + 1) * bs) n)
theorem bl_next {d : Nat → De} {bs k : Nat} (h : Bl d bs k) (g : Srt d (k * bs) ((k + 1) * bs)) : Bl d bs (k + 1) := fun t ht => by
  rcases Nat.lt_or_ge t k with c | c
  · exact h t c
  · obtain rfl : t = k := by omega
    exact g
theorem bl_keep {d1 d2 : Array De} {lo hi bs k : Nat} (h : PermIn lo hi d1 d2) (hk : k * bs ≤ lo) (g : Bl (at_ d1) bs k) : Bl (at_ d2) bs k := fun t ht => by
  have : (t + 1) * bs ≤ k * bs := Nat.mul_le_mul_right _ ht
  exact srt_keep h (.inl (by omega)) (g t ht)
theorem br_all {d : Nat → De} {bs k n : Nat} (h : Bl d bs k) (g : Srt d (k * bs) n) (hn : n ≤ k * bs + bs) : Br d bs 0 n := fun t => by
  rw [Nat.zero_add, Nat.zero_add]
  rcases Nat.lt_or_ge t k with c | c
  · exact (h t c).less (Nat.min_le_left _ _)
  · rcases Nat.lt_or_ge k t with c2 | c2
    · have : (k + 1) * bs ≤ t * bs := Nat.mul_le_mul_right _ c2
      rw [Nat.add_mul, Nat.one_mul] at this
      exact srt_void (by have := Nat.min_le_right ((t + 1) * bs) n; omega)
    · obtain rfl : t = k := by omega
      exact g.less (Nat.min_le_right _ _)
theorem br_two {d : Nat → De} {bs a n : Nat} (h : Br d bs a n) : Srt d a (min (a + bs) n) ∧ Srt d (a + bs) (min (a + 2 * bs) n) := by
  have h0 := h 0
  have h1 := h 1
  rw [Nat.zero_mul, Nat.add_zero, Nat.zero_add, Nat.one_mul] at h0
  rw [Nat.one_mul, show 1 + 1 = 2 from rfl] at h1
  exact ⟨h0, h1⟩
theorem br_keep {d1 d2 : Array De} {lo bs a n : Nat} (h : PermIn lo (a + 2 * bs) d1 d2) (g : Br (at_ d1) bs a n) : Br (at_ d2) bs (a + 2 * bs) n := fun t => by
  have := g (t + 2)
  rw [Nat.add_mul, show t + 2 + 1 = (t + 1) + 2 from rfl, Nat.add_mul (t + 1)] at this
  refine srt_keep h (.inr (by omega)) ?_
  rw [show a + 2 * bs + t * bs = a + (t * bs + 2 * bs) by omega, show a + 2 * bs + (t + 1) * bs = a + ((t + 1) * bs + 2 * bs) by omega]
  exact this
set_option maxHeartbeats 16000000 in
set_option maxRecDepth 1000000 in
theorem stable_any (blk off cap : Nat) (d0 d : Array De) (w0 w : World) (R : RowK enc3 3 w0 blk off d0) (hs : d0.size = d.size) (S : SWK enc3 3 w0 blk off d w) (hsz : d.size ≤ 1000000) (hT : Tied d) :
    Calls Tryz.prog 99 #[.slice (some ⟨blk, off, none⟩) d.size cap, .int .i64 d.size, .func (.func 62) #[] #[]] w fun e w' => e = .returned (.tuple #[]) ∧ ∃ d', SWK enc3 3 w0 blk off d' w' ∧ d'.size = d.size ∧ PermIn 0 d.size d d' ∧ Tied d' ∧ Srt (at_ d') 0 d.size := by
  have S0 : Aside (SWK enc3 3 w0 blk off d w) := S
  obtain ⟨n, hn⟩ : ∃ n, n = d.size := ⟨_, rfl⟩
  have HN := Lib.hid hn
  have HTD := Lib.hid hT
  rw [← hn] at hsz ⊢
  have hsz0 : Hid (d0.size < 4611686018427387904) := by unfold Hid; omega
  have hs0 : Hid (d0.size = n) := by unfold Hid; omega
  clear S hs hn hT
  go_enter Tryz.func99, Tryz.ntmps99
  go_wp2_with fail
  go_loopg [7, 8] n (fun kx s7 s8 wr => ∃ (k a b : Nat) (dk : Array De), s7 = .int .i64 a ∧ s8 = .int .i64 b ∧ a + 20 ≤ b ∧ b ≤ a + 20 ∧ Hid (a = k * 20) ∧ a ≤ n ∧ n - a ≤ kx ∧ Aside (SWK enc3 3 w0 blk off dk wr) ∧ Hid (dk.size = n) ∧ Hid (PermIn 0 n d dk ∧ Tied dk) ∧ Hid (Bl (at_ dk) 20 k))
  case atStart => exact ⟨0, 0, 20, d, rfl, rfl, by omega, by omega, by unfold Hid; omega, by omega, by omega, S0, HN.out.symm, ⟨permIn_refl _ _ _, HTD.out⟩, fun t ht => by omega⟩
  case round =>
    clear S0
    obtain ⟨k, a, b, dk, rfl, rfl, hb1, hb2, hak, han, hkx, S1, Z1, P1, B1⟩ := hrel
    by_cases hlt : b ≤ n
    · have hltz : (b : Int) ≤ (n : Int) := by omega
      have c := ins_any blk off cap a b d0 dk w0 wr R (by rw [hs0.out, Z1.out]) S1.out (by omega) (by rw [Z1.out]; exact hlt) (by rw [Z1.out]; omega) P1.out.2
      rw [Z1.out] at c
      have C := Lib.hid c
      clear c S1
      go_wp2_with fail
      refine C.out.mono ?_
      rintro en w2 ⟨rfl, d2, s2, z2, p2, t2', x2⟩
      have S2 : Aside _ := s2
      have Z2 := Lib.hid z2
      have P2 : Hid (PermIn 0 n d d2 ∧ Tied d2) := (fun h => ⟨permIn_trans _ _ _ _ _ P1.out.1 h, t2'⟩) (permIn_mono dk d2 a b 0 n (Nat.zero_le _) hlt (by rw [Z1.out]; exact Nat.le_refl _) p2)
      have B2 : Hid (Bl (at_ d2) 20 (k + 1)) := bl_next (bl_keep p2 (by rw [← hak.out]; exact Nat.le_refl _) B1.out) (by
        have e1 : k * 20 = a := hak.out.symm
        have e2 : (k + 1) * 20 = b := by omega
        rw [e1, e2]; exact x2)
      have A2 : Hid (b = (k + 1) * 20) := by unfold Hid; have := hak.out; omega
      clear s2 z2 p2 t2' x2 C
      go_wp2_with fail
      go_roundg (n - b)
      case measure => omega
      case rel => exact ⟨k + 1, b, b + 20, d2, rfl, by go_num, by omega, by omega, A2.out, hlt, by omega, S2, Z2.out, P2.out, B2.out⟩
    · have hltz : (n : Int) < (b : Int) := by omega
      have c := ins_any blk off cap a n d0 dk w0 wr R (by rw [hs0.out, Z1.out]) S1.out (by omega) (by rw [Z1.out]; exact Nat.le_refl _) (by rw [Z1.out]; omega) P1.out.2
      rw [Z1.out] at c
      have C := Lib.hid c
      clear c S1 hlt
      go_wp2_with fail
      refine C.out.mono ?_
      rintro en w2 ⟨rfl, d2, s2, z2, p2, t2', x2⟩
      have S2 : Aside _ := s2
      have Z2 := Lib.hid z2
      have P2 : Hid (PermIn 0 n d d2 ∧ Tied d2) := (fun h => ⟨permIn_trans _ _ _ _ _ P1.out.1 h, t2'⟩) (permIn_mono dk d2 a n 0 n (Nat.zero_le _) (Nat.le_refl _) (by rw [Z1.out]; exact Nat.le_refl _) p2)
      have B2 : Hid (Br (at_ d2) 20 0 n) := br_all (k := k) (bl_keep p2 (by rw [← hak.out]; exact Nat.le_refl _) B1.out) (by rw [← hak.out]; exact x2) (by rw [← hak.out]; omega)
      clear s2 z2 p2 t2' x2 C P1 B1 Z1 hak hb1 hb2 hltz hkx han
      go_wp2_with fail
      go_loopg [6] n (fun kx s6 wr => ∃ (bs : Nat) (dk : Array De), s6 = .int .i64 bs ∧ 0 < bs ∧ bs ≤ 4000000 ∧ n - bs ≤ kx ∧ Aside (SWK enc3 3 w0 blk off dk wr) ∧ Hid (dk.size = n) ∧ Hid (PermIn 0 n d dk ∧ Tied dk) ∧ Hid (Br (at_ dk) bs 0 n))
      case atStart => exact ⟨20, d2, rfl, by omega, by omega, by omega, S2, Z2.out, P2.out, B2.out⟩
      case round =>
        clear S2 Z2 P2 B2
        obtain ⟨bs, dk, rfl, hbs0, hbs1, hkx, S1, Z1, P1, B1⟩ := hrel
        by_cases hlt : bs < n
        · have hltz : (bs : Int) < (n : Int) := by omega
          obtain ⟨cc, hcc⟩ : ∃ cc, cc = 2 * bs := ⟨_, rfl⟩
          have E1 : (2 : Int) * (bs : Int) = (cc : Int) := by omega
          have E2 : (bs : Int) * 2 = (cc : Int) := by omega
          have hc1 : bs < cc := by omega
          have hc2 : cc ≤ 2000000 := by omega
          have HCC := Lib.hid hcc
          clear hcc
          go_wp2_with fail
          go_loopg [7, 8] n (fun kx s7 s8 wx => ∃ (k a b : Nat) (dj : Array De), s7 = .int .i64 a ∧ s8 = .int .i64 b ∧ a + cc ≤ b ∧ b ≤ a + cc ∧ Hid (a = k * cc) ∧ a ≤ n ∧ n - a ≤ kx ∧ Aside (SWK enc3 3 w0 blk off dj wx) ∧ Hid (dj.size = n) ∧ Hid (PermIn 0 n d dj ∧ Tied dj) ∧ Hid (Bl (at_ dj) cc k) ∧ Hid (Br (at_ dj) bs a n))
          case atStart => exact ⟨0, 0, cc, dk, rfl, rfl, by omega, by omega, by unfold Hid; omega, by omega, by omega, S1, Z1.out, P1.out, fun t ht => by omega, B1.out⟩
          case round =>
            clear S1 Z1 P1 B1
            obtain ⟨k, a, b, dj, rfl, rfl, hb1, hb2, hak, han, hkx2, S1, Z1, P1, B1, Q1⟩ := hrel
            obtain ⟨t1, t2⟩ := br_two Q1.out
            obtain ⟨m, hm⟩ : ∃ m, m = a + bs := ⟨_, rfl⟩
            have EM : (a : Int) + (bs : Int) = (m : Int) := by omega
            have hma : a < m := by omega
            have hmb : m < b := by omega
            have hcm : Hid (a + 2 * bs = b) := by unfold Hid; have := HCC.out; omega
            rw [← hm] at t1 t2
            have T1 := Lib.hid t1
            have T2 := Lib.hid t2
            clear hm t1 t2
            by_cases hlt2 : b ≤ n
            · have hltz2 : (b : Int) ≤ (n : Int) := by omega
              have c := symMerge_any blk off cap d0 w0 R hsz0.out (b - a) a m b dj wr P1.out.2 (by rw [hs0.out, Z1.out]) S1.out hma hmb (by rw [Z1.out]; exact hlt2) (T1.out.less (by omega)) (T2.out.less (by have := hcm.out; omega)) (Nat.le_refl _)
              unfold Merges at c
              rw [Z1.out] at c
              have C := Lib.hid c
              clear c S1
              go_wp2_with fail
              refine C.out.mono ?_
              rintro en w3 ⟨rfl, d3, s3, z3, p3, t3', x3⟩
              have S3 : Aside _ := s3
              have Z3 := Lib.hid z3
              have P3 : Hid (PermIn 0 n d d3 ∧ Tied d3) := (fun h => ⟨permIn_trans _ _ _ _ _ P1.out.1 h, t3'⟩) (permIn_mono dj d3 a b 0 n (Nat.zero_le _) hlt2 (by rw [Z1.out]; exact Nat.le_refl _) p3)
              have e2 : (k + 1) * cc = b := by rw [Nat.add_mul, Nat.one_mul, ← hak.out]; omega
              have B3 : Hid (Bl (at_ d3) cc (k + 1)) := bl_next (bl_keep p3 (by rw [← hak.out]; exact Nat.le_refl _) B1.out) (by
                rw [← hak.out, e2]; exact x3)
              have Q3 : Hid (Br (at_ d3) bs b n) := by
                have := br_keep (lo := a) (by rw [hcm.out]; exact p3) Q1.out
                rw [hcm.out] at this
                exact this
              have A3 := Lib.hid e2
              clear s3 z3 p3 t3' x3 C e2
              go_wp2_with fail
              go_roundg (n - b)
              case measure => omega
              case rel => exact ⟨k + 1, b, b + cc, d3, rfl, by go_num, by omega, by omega, A3.out.symm, hlt2, by omega, S3, Z3.out, P3.out, B3.out, Q3.out⟩
            · have hltz2 : (n : Int) < (b : Int) := by omega
              clear hlt2
              by_cases hmn : m < n
              · have hmz : (m : Int) < (n : Int) := by omega
                have c := symMerge_any blk off cap d0 w0 R hsz0.out (n - a) a m n dj wr P1.out.2 (by rw [hs0.out, Z1.out]) S1.out hma hmn (by rw [Z1.out]; exact Nat.le_refl _) (T1.out.less (by omega)) (T2.out.less (by have := hcm.out; omega)) (Nat.le_refl _)
                unfold Merges at c
                rw [Z1.out] at c
                have C := Lib.hid c
                clear c S1
                go_wp2_with fail
                refine C.out.mono ?_
                rintro en w3 ⟨rfl, d3, s3, z3, p3, t3', x3⟩
                have S3 : Aside _ := s3
                have Z3 := Lib.hid z3
                have P3 : Hid (PermIn 0 n d d3 ∧ Tied d3) := (fun h => ⟨permIn_trans _ _ _ _ _ P1.out.1 h, t3'⟩) (permIn_mono dj d3 a n 0 n (Nat.zero_le _) (Nat.le_refl _) (by rw [Z1.out]; exact Nat.le_refl _) p3)
                have B3 : Hid (Br (at_ d3) cc 0 n) := br_all (k := k) (bl_keep p3 (by rw [← hak.out]; exact Nat.le_refl _) B1.out) (by rw [← hak.out]; exact x3) (by rw [← hak.out]; omega)
                clear s3 z3 p3 t3' x3 C
                go_wp2_with fail
                go_roundg (n - cc)
                case measure => omega
                case rel => exact ⟨cc, d3, rfl, by omega, by omega, by omega, S3, Z3.out, P3.out, B3.out⟩
              · have hmz : (n : Int) ≤ (m : Int) := by omega
                have B3 : Hid (Br (at_ dj) cc 0 n) := br_all (k := k) B1.out (by rw [← hak.out]; exact T1.out.less (by omega)) (by rw [← hak.out]; omega)
                clear hmn
                go_wp2_with fail
                go_roundg (n - cc)
                case measure => omega
                case rel => exact ⟨cc, dj, rfl, by omega, by omega, by omega, S1, Z1.out, P1.out, B3.out⟩
        · have hltz : (n : Int) ≤ (bs : Int) := by omega
          have HF : Hid (Srt (at_ dk) 0 n) := (br_two B1.out).1.less (by omega)
          clear hlt
          go_wp2_with fail
          go_end0
          exact ⟨rfl, dk, S1.out, Z1.out, P1.out.1, P1.out.2, HF.out⟩
end Sd
end Go.Proofs.YthjflofcgdfekaaGreatDoor
