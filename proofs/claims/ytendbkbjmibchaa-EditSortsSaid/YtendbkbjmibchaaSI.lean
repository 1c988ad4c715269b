/- Contracts: the library's stable sort at edits. -/
import Derived.Test.YtendbkbjmibchaaSH
namespace Go.Proofs.Ytendbkbjmibchaa
open Go.RowKit Go.Sort Go.Proofs Go.Shelf

theorem ins_any (blk off cap a b : Nat) (d0 d : Array Ed) (w0 w : World) (R : RowK enc3 3 w0 blk off d0) (hs : d0.size = d.size) (S : SWK enc3 3 w0 blk off d w) (hab : a ≤ b) (hb : b ≤ d.size) (hsz : d.size < 4611686018427387904) :
    Calls Try.prog 73 #[.slice (some ⟨blk, off, none⟩) d.size cap, .int .i64 a, .int .i64 b, .func (.func 57) #[] #[]] w fun e w' => e = .returned (.tuple #[]) ∧ ∃ d', SWK enc3 3 w0 blk off d' w' ∧ d'.size = d.size ∧ PermIn a b d d' ∧ Srt (at_ d') a b := by
  have h := insertionSort_holds swocf d a b hab hb
  have c := AnyQ.insertionSortCmpFunc ins20 3 Try.isAgg68 Try.sizeOf68 enc3 enc3_len enc3_one cf 57 #[] blk off cap a b d w enter57 (cmpLays57 blk off d.size w) (S.holds R.hblk R.hH hs.symm) (S.lt R.hblk) hab hb hsz
  change Calls Try.prog 73 _ _ _ at c
  refine c.mono ?_
  rintro e w' ⟨rfl, n, os, rfl⟩
  exact ⟨rfl, _, S.on R.hblk n _ os h.1.1, h.1.1, h.1, h.2⟩

theorem Srt.less {d : Nat → Ed} {a b b' : Nat} (h : Srt d a b) (hb : b' ≤ b) : Srt d a b' := fun x y hx hxy hy => h x y hx hxy (by omega)
theorem srt_void {d : Nat → Ed} {a b : Nat} (h : b ≤ a) : Srt d a b := fun x y hx hxy hy => by omega
/-- Blocks of bs elements from 0 on are in order, k of them. -/
def Bl (d : Nat → Ed) (bs k : Nat) : Prop := ∀ t, t < k → Srt d (t * bs) ((t + 1) * bs)
/-- Blocks of bs elements from a on, up to n, are in order. -/
def Br (d : Nat → Ed) (bs a n : Nat) : Prop := ∀ t, Srt d (a + t * bs) (min (a + (t + 1) * bs) n)
theorem bl_next {d : Nat → Ed} {bs k : Nat} (h : Bl d bs k) (g : Srt d (k * bs) ((k + 1) * bs)) : Bl d bs (k + 1) := fun t ht => by
  rcases Nat.lt_or_ge t k with c | c
  · exact h t c
  · obtain rfl : t = k := by omega
    exact g
theorem bl_keep {d1 d2 : Array Ed} {lo hi bs k : Nat} (h : PermIn lo hi d1 d2) (hk : k * bs ≤ lo) (g : Bl (at_ d1) bs k) : Bl (at_ d2) bs k := fun t ht => by
  have : (t + 1) * bs ≤ k * bs := Nat.mul_le_mul_right _ ht
  exact srt_keep h (.inl (by omega)) (g t ht)
theorem br_all {d : Nat → Ed} {bs k n : Nat} (h : Bl d bs k) (g : Srt d (k * bs) n) (hn : n ≤ k * bs + bs) : Br d bs 0 n := fun t => by
  rw [Nat.zero_add, Nat.zero_add]
  rcases Nat.lt_or_ge t k with c | c
  · exact (h t c).less (Nat.min_le_left _ _)
  · rcases Nat.lt_or_ge k t with c2 | c2
    · have : (k + 1) * bs ≤ t * bs := Nat.mul_le_mul_right _ c2
      rw [Nat.add_mul, Nat.one_mul] at this
      exact srt_void (by have := Nat.min_le_right ((t + 1) * bs) n; omega)
    · obtain rfl : t = k := by omega
      exact g.less (Nat.min_le_right _ _)
theorem br_two {d : Nat → Ed} {bs a n : Nat} (h : Br d bs a n) : Srt d a (min (a + bs) n) ∧ Srt d (a + bs) (min (a + 2 * bs) n) := by
  have h0 := h 0
  have h1 := h 1
  rw [Nat.zero_mul, Nat.add_zero, Nat.zero_add, Nat.one_mul] at h0
  rw [Nat.one_mul, show 1 + 1 = 2 from rfl] at h1
  exact ⟨h0, h1⟩
theorem br_keep {d1 d2 : Array Ed} {lo bs a n : Nat} (h : PermIn lo (a + 2 * bs) d1 d2) (g : Br (at_ d1) bs a n) : Br (at_ d2) bs (a + 2 * bs) n := fun t => by
  have := g (t + 2)
  rw [Nat.add_mul, show t + 2 + 1 = (t + 1) + 2 from rfl, Nat.add_mul (t + 1)] at this
  refine srt_keep h (.inr (by omega)) ?_
  rw [show a + 2 * bs + t * bs = a + (t * bs + 2 * bs) by omega, show a + 2 * bs + (t + 1) * bs = a + ((t + 1) * bs + 2 * bs) by omega]
  exact this

set_option maxHeartbeats 16000000 in
set_option maxRecDepth 1000000 in
theorem stable_any (blk off cap : Nat) (d0 d : Array Ed) (w0 w : World) (R : RowK enc3 3 w0 blk off d0) (hs : d0.size = d.size) (S : SWK enc3 3 w0 blk off d w) (hsz : d.size ≤ 1000000) :
    Calls Try.prog 66 #[.slice (some ⟨blk, off, none⟩) d.size cap, .int .i64 d.size, .func (.func 57) #[] #[]] w fun e w' => e = .returned (.tuple #[]) ∧ ∃ d', SWK enc3 3 w0 blk off d' w' ∧ d'.size = d.size ∧ PermIn 0 d.size d d' ∧ Srt (at_ d') 0 d.size := by
  have S0 : Aside (SWK enc3 3 w0 blk off d w) := S
  obtain ⟨n, hn⟩ : ∃ n, n = d.size := ⟨_, rfl⟩
  have HN := Lib.hid hn
  rw [← hn] at hsz ⊢
  have hsz0 : Hid (d0.size < 4611686018427387904) := by unfold Hid; omega
  have hs0 : Hid (d0.size = n) := by unfold Hid; omega
  clear S hs hn
  go_enter Try.func66, Try.ntmps66
  go_wp2_with fail
  go_loopg [7, 8] n (fun kx s7 s8 wr => ∃ (k a b : Nat) (dk : Array Ed), s7 = .int .i64 a ∧ s8 = .int .i64 b ∧ a + 20 ≤ b ∧ b ≤ a + 20 ∧ Hid (a = k * 20) ∧ a ≤ n ∧ n - a ≤ kx ∧ Aside (SWK enc3 3 w0 blk off dk wr) ∧ Hid (dk.size = n) ∧ Hid (PermIn 0 n d dk) ∧ Hid (Bl (at_ dk) 20 k))
  case atStart => exact ⟨0, 0, 20, d, rfl, rfl, by omega, by omega, by unfold Hid; omega, by omega, by omega, S0, HN.out.symm, permIn_refl _ _ _, fun t ht => by omega⟩
  case round =>
    clear S0
    obtain ⟨k, a, b, dk, rfl, rfl, hb1, hb2, hak, han, hkx, S1, Z1, P1, B1⟩ := hrel
    by_cases hlt : b ≤ n
    · have hltz : (b : Int) ≤ (n : Int) := by omega
      have c := ins_any blk off cap a b d0 dk w0 wr R (by rw [hs0.out, Z1.out]) S1.out (by omega) (by rw [Z1.out]; exact hlt) (by rw [Z1.out]; omega)
      rw [Z1.out] at c
      have C := Lib.hid c
      clear c S1
      go_wp2_with fail
      refine C.out.mono ?_
      rintro en w2 ⟨rfl, d2, s2, z2, p2, x2⟩
      have S2 : Aside _ := s2
      have Z2 := Lib.hid z2
      have P2 : Hid (PermIn 0 n d d2) := permIn_trans _ _ _ _ _ P1.out (permIn_mono dk d2 a b 0 n (Nat.zero_le _) hlt (by rw [Z1.out]; exact Nat.le_refl _) p2)
      have B2 : Hid (Bl (at_ d2) 20 (k + 1)) := bl_next (bl_keep p2 (by rw [← hak.out]; exact Nat.le_refl _) B1.out) (by
        have e1 : k * 20 = a := hak.out.symm
        have e2 : (k + 1) * 20 = b := by omega
        rw [e1, e2]; exact x2)
      have A2 : Hid (b = (k + 1) * 20) := by unfold Hid; have := hak.out; omega
      clear s2 z2 p2 x2 C
      go_wp2_with fail
      go_roundg (n - b)
      case measure => omega
      case rel => exact ⟨k + 1, b, b + 20, d2, rfl, by go_num, by omega, by omega, A2.out, hlt, by omega, S2, Z2.out, P2.out, B2.out⟩
    · have hltz : (n : Int) < (b : Int) := by omega
      have c := ins_any blk off cap a n d0 dk w0 wr R (by rw [hs0.out, Z1.out]) S1.out (by omega) (by rw [Z1.out]; exact Nat.le_refl _) (by rw [Z1.out]; omega)
      rw [Z1.out] at c
      have C := Lib.hid c
      clear c S1 hlt
      go_wp2_with fail
      refine C.out.mono ?_
      rintro en w2 ⟨rfl, d2, s2, z2, p2, x2⟩
      have S2 : Aside _ := s2
      have Z2 := Lib.hid z2
      have P2 : Hid (PermIn 0 n d d2) := permIn_trans _ _ _ _ _ P1.out (permIn_mono dk d2 a n 0 n (Nat.zero_le _) (Nat.le_refl _) (by rw [Z1.out]; exact Nat.le_refl _) p2)
      have B2 : Hid (Br (at_ d2) 20 0 n) := br_all (k := k) (bl_keep p2 (by rw [← hak.out]; exact Nat.le_refl _) B1.out) (by rw [← hak.out]; exact x2) (by rw [← hak.out]; omega)
      clear s2 z2 p2 x2 C P1 B1 Z1 hak hb1 hb2 hltz hkx han
      go_wp2_with fail
      go_loopg [6] n (fun kx s6 wr => ∃ (bs : Nat) (dk : Array Ed), s6 = .int .i64 bs ∧ 0 < bs ∧ bs ≤ 4000000 ∧ n - bs ≤ kx ∧ Aside (SWK enc3 3 w0 blk off dk wr) ∧ Hid (dk.size = n) ∧ Hid (PermIn 0 n d dk) ∧ Hid (Br (at_ dk) bs 0 n))
      case atStart => exact ⟨20, d2, rfl, by omega, by omega, by omega, S2, Z2.out, P2.out, B2.out⟩
      case round =>
        clear S2 Z2 P2 B2
        obtain ⟨bs, dk, rfl, hbs0, hbs1, hkx, S1, Z1, P1, B1⟩ := hrel
        by_cases hlt : bs < n
        · have hltz : (bs : Int) < (n : Int) := by omega
          obtain ⟨cc, hcc⟩ : ∃ cc, cc = 2 * bs := ⟨_, rfl⟩
          have E1 : (2 : Int) * (bs : Int) = (cc : Int) := by omega
          have E2 : (bs : Int) * 2 = (cc : Int) := by omega
          have hc1 : bs < cc := by omega
          have hc2 : cc ≤ 2000000 := by omega
          have HCC := Lib.hid hcc
          clear hcc
          go_wp2_with fail
          go_loopg [7, 8] n (fun kx s7 s8 wx => ∃ (k a b : Nat) (dj : Array Ed), s7 = .int .i64 a ∧ s8 = .int .i64 b ∧ a + cc ≤ b ∧ b ≤ a + cc ∧ Hid (a = k * cc) ∧ a ≤ n ∧ n - a ≤ kx ∧ Aside (SWK enc3 3 w0 blk off dj wx) ∧ Hid (dj.size = n) ∧ Hid (PermIn 0 n d dj) ∧ Hid (Bl (at_ dj) cc k) ∧ Hid (Br (at_ dj) bs a n))
          case atStart => exact ⟨0, 0, cc, dk, rfl, rfl, by omega, by omega, by unfold Hid; omega, by omega, by omega, S1, Z1.out, P1.out, fun t ht => by omega, B1.out⟩
          case round =>
            clear S1 Z1 P1 B1
            obtain ⟨k, a, b, dj, rfl, rfl, hb1, hb2, hak, han, hkx2, S1, Z1, P1, B1, Q1⟩ := hrel
            obtain ⟨t1, t2⟩ := br_two Q1.out
            obtain ⟨m, hm⟩ : ∃ m, m = a + bs := ⟨_, rfl⟩
            have EM : (a : Int) + (bs : Int) = (m : Int) := by omega
            have hma : a < m := by omega
            have hmb : m < b := by omega
            have hcm : Hid (a + 2 * bs = b) := by unfold Hid; have := HCC.out; omega
            rw [← hm] at t1 t2
            have T1 := Lib.hid t1
            have T2 := Lib.hid t2
            clear hm t1 t2
            by_cases hlt2 : b ≤ n
            · have hltz2 : (b : Int) ≤ (n : Int) := by omega
              have c := symMerge_any blk off cap d0 w0 R hsz0.out (b - a) a m b dj wr (by rw [hs0.out, Z1.out]) S1.out hma hmb (by rw [Z1.out]; exact hlt2) (T1.out.less (by omega)) (T2.out.less (by have := hcm.out; omega)) (Nat.le_refl _)
              unfold Merges at c
              rw [Z1.out] at c
              have C := Lib.hid c
              clear c S1
              go_wp2_with fail
              refine C.out.mono ?_
              rintro en w3 ⟨rfl, d3, s3, z3, p3, x3⟩
              have S3 : Aside _ := s3
              have Z3 := Lib.hid z3
              have P3 : Hid (PermIn 0 n d d3) := permIn_trans _ _ _ _ _ P1.out (permIn_mono dj d3 a b 0 n (Nat.zero_le _) hlt2 (by rw [Z1.out]; exact Nat.le_refl _) p3)
              have e2 : (k + 1) * cc = b := by rw [Nat.add_mul, Nat.one_mul, ← hak.out]; omega
              have B3 : Hid (Bl (at_ d3) cc (k + 1)) := bl_next (bl_keep p3 (by rw [← hak.out]; exact Nat.le_refl _) B1.out) (by
                rw [← hak.out, e2]; exact x3)
              have Q3 : Hid (Br (at_ d3) bs b n) := by
                have := br_keep (lo := a) (by rw [hcm.out]; exact p3) Q1.out
                rw [hcm.out] at this
                exact this
              have A3 := Lib.hid e2
              clear s3 z3 p3 x3 C e2
              go_wp2_with fail
              go_roundg (n - b)
              case measure => omega
              case rel => exact ⟨k + 1, b, b + cc, d3, rfl, by go_num, by omega, by omega, A3.out.symm, hlt2, by omega, S3, Z3.out, P3.out, B3.out, Q3.out⟩
            · have hltz2 : (n : Int) < (b : Int) := by omega
              clear hlt2
              by_cases hmn : m < n
              · have hmz : (m : Int) < (n : Int) := by omega
                have c := symMerge_any blk off cap d0 w0 R hsz0.out (n - a) a m n dj wr (by rw [hs0.out, Z1.out]) S1.out hma hmn (by rw [Z1.out]; exact Nat.le_refl _) (T1.out.less (by omega)) (T2.out.less (by have := hcm.out; omega)) (Nat.le_refl _)
                unfold Merges at c
                rw [Z1.out] at c
                have C := Lib.hid c
                clear c S1
                go_wp2_with fail
                refine C.out.mono ?_
                rintro en w3 ⟨rfl, d3, s3, z3, p3, x3⟩
                have S3 : Aside _ := s3
                have Z3 := Lib.hid z3
                have P3 : Hid (PermIn 0 n d d3) := permIn_trans _ _ _ _ _ P1.out (permIn_mono dj d3 a n 0 n (Nat.zero_le _) (Nat.le_refl _) (by rw [Z1.out]; exact Nat.le_refl _) p3)
                have B3 : Hid (Br (at_ d3) cc 0 n) := br_all (k := k) (bl_keep p3 (by rw [← hak.out]; exact Nat.le_refl _) B1.out) (by rw [← hak.out]; exact x3) (by rw [← hak.out]; omega)
                clear s3 z3 p3 x3 C
                go_wp2_with fail
                go_roundg (n - cc)
                case measure => omega
                case rel => exact ⟨cc, d3, rfl, by omega, by omega, by omega, S3, Z3.out, P3.out, B3.out⟩
              · have hmz : (n : Int) ≤ (m : Int) := by omega
                have B3 : Hid (Br (at_ dj) cc 0 n) := br_all (k := k) B1.out (by rw [← hak.out]; exact T1.out.less (by omega)) (by rw [← hak.out]; omega)
                clear hmn
                go_wp2_with fail
                go_roundg (n - cc)
                case measure => omega
                case rel => exact ⟨cc, dj, rfl, by omega, by omega, by omega, S1, Z1.out, P1.out, B3.out⟩
        · have hltz : (n : Int) ≤ (bs : Int) := by omega
          have HF : Hid (Srt (at_ dk) 0 n) := (br_two B1.out).1.less (by omega)
          clear hlt
          go_wp2_with fail
          go_end0
          exact ⟨rfl, dk, S1.out, Z1.out, P1.out, HF.out⟩
end Go.Proofs.Ytendbkbjmibchaa
