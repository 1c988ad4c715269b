/- Contracts: the library's stable sort at edits. -/
import Derived.Test.YtnefnnoleeeedaaMAU
import Derived.Deep.CutRange
import Derived.Deep.LoopGhost
namespace Go.Proofs.Ytnefnnoleeeedaa
open Go.RowKit Go.Sort Go.Proofs Go.Shelf
namespace Sb

theorem ins_any (blk off cap a b : Nat) (d0 d : Array Be) (w0 w : World) (R : RowK enc2 2 w0 blk off d0) (hs : d0.size = d.size) (S : SWK enc2 2 w0 blk off d w) (hab : a ≤ b) (hb : b ≤ d.size) (hsz : d.size < 4611686018427387904) (hT : Tied d) :
    Calls Try.prog 68 #[.slice (some ⟨blk, off, none⟩) d.size cap, .int .i64 a, .int .i64 b, .func (.func 23) #[] #[]] w fun e w' => e = .returned (.tuple #[]) ∧ ∃ d', SWK enc2 2 w0 blk off d' w' ∧ d'.size = d.size ∧ PermIn a b d d' ∧ Tied d' ∧ Srt (at_ d') a b := by
  have h := insertionSort_holds swocf d a b hab hb
  have hT2 : Tied (insertionSort (ltOf cf) d a b) := insOuter_tied a b b (a + 1) d (by omega) hb hT
  have c := AnyQ.insertionSortCmpFunc ins20 2 Try.isAgg50 Try.sizeOf50 enc2 enc2_len enc2_one cf 23 #[] blk off cap a b d w enter23 (cmpLays23 blk off d.size w) (S.holds R.hblk R.hH hs.symm) (S.lt R.hblk) hab hb hsz
  change Calls Try.prog 68 _ _ _ at c
  refine c.mono ?_
  rintro e w' ⟨rfl, n, os, rfl⟩
  exact ⟨rfl, _, S.on R.hblk n _ os h.1.1, h.1.1, h.1, hT2, srt_of hT2 (by rw [h.1.1]; exact hb) h.2⟩

theorem Srt.less {d : Nat → Be} {a b b' : Nat} (h : Srt d a b) (hb : b' ≤ b) : Srt d a b' := fun x y hx hxy hy => h x y hx hxy (by omega)
theorem srt_void {d : Nat → Be} {a b : Nat} (h : b ≤ a) : Srt d a b := fun x y hx hxy hy => by omega
/-- Blocks of bs elements from 0 on are in order, k of them. -/
def Bl (d : Nat → Be) (bs k : Nat) : Prop := ∀ t, t < k → Srt d (t * bs) ((t + 1) * bs)
/-- Blocks of bs elements from a on, up to n, are in order. -/
def Br (d : Nat → Be) (bs a n : Nat) : Prop := ∀ t, Srt d (a + t * bs) (min (a + (t + 1) * bs) n)
theorem bl_next {d : Nat → Be} {bs k : Nat} (h : Bl d bs k) (g : Srt d (k * bs) ((k + 1) * bs)) : Bl d bs (k + 1) := fun t ht => by
  rcases Nat.lt_or_ge t k with c | c
  · exact h t c
  · obtain rfl : t = k := by omega
    exact g
theorem bl_keep {d1 d2 : Array Be} {lo hi bs k : Nat} (h : PermIn lo hi d1 d2) (hk : k * bs ≤ lo) (g : Bl (at_ d1) bs k) : Bl (at_ d2) bs k := fun t ht => by
  have : (t + 1) * bs ≤ k * bs := Nat.mul_le_mul_right _ ht
  exact srt_keep h (.inl (by omega)) (g t ht)
theorem br_all {d : Nat → Be} {bs k n : Nat} (h : Bl d bs k) (g : Srt d (k * bs) n) (hn : n ≤ k * bs + bs) : Br d bs 0 n := fun t => by
  rw [Nat.zero_add, Nat.zero_add]
  rcases Nat.lt_or_ge t k with c | c
  · exact (h t c).less (Nat.min_le_left _ _)
  · rcases Nat.lt_or_ge k t with c2 | c2
    · have : (k + 1) * bs ≤ t * bs := Nat.mul_le_mul_right _ c2
      rw [Nat.add_mul, Nat.one_mul] at this
      exact srt_void (by have := Nat.min_le_right ((t + 1) * bs) n; omega)
    · obtain rfl : t = k := by omega
      exact g.less (Nat.min_le_right _ _)
theorem br_two {d : Nat → Be} {bs a n : Nat} (h : Br d bs a n) : Srt d a (min (a + bs) n) ∧ Srt d (a + bs) (min (a + 2 * bs) n) := by
  have h0 := h 0
  have h1 := h 1
  rw [Nat.zero_mul, Nat.add_zero, Nat.zero_add, Nat.one_mul] at h0
  rw [Nat.one_mul, show 1 + 1 = 2 from rfl] at h1
  exact ⟨h0, h1⟩
theorem br_keep {d1 d2 : Array Be} {lo bs a n : Nat} (h : PermIn lo (a + 2 * bs) d1 d2) (g : Br (at_ d1) bs a n) : Br (at_ d2) bs (a + 2 * bs) n := fun t => by
  have := g (t + 2)
  rw [Nat.add_mul, show t + 2 + 1 = (t + 1) + 2 from rfl, Nat.add_mul (t + 1)] at this
  refine srt_keep h (.inr (by omega)) ?_
  rw [show a + 2 * bs + t * bs = a + (t * bs + 2 * bs) by omega, show a + 2 * bs + (t + 1) * bs = a + ((t + 1) * bs + 2 * bs) by omega]
  exact this

set_option maxHeartbeats 16000000 in
set_option maxRecDepth 1000000 in
theorem stable_any (blk off cap : Nat) (d0 d : Array Be) (w0 w : World) (R : RowK enc2 2 w0 blk off d0) (hs : d0.size = d.size) (S : SWK enc2 2 w0 blk off d w) (hsz : d.size ≤ 1000000) (hT : Tied d) :
    Calls Try.prog 47 #[.slice (some ⟨blk, off, none⟩) d.size cap, .int .i64 d.size, .func (.func 23) #[] #[]] w fun e w' => e = .returned (.tuple #[]) ∧ ∃ d', SWK enc2 2 w0 blk off d' w' ∧ d'.size = d.size ∧ PermIn 0 d.size d d' ∧ Tied d' ∧ Srt (at_ d') 0 d.size := by
  have S0 : Aside (SWK enc2 2 w0 blk off d w) := S
  obtain ⟨n, hn⟩ : ∃ n, n = d.size := ⟨_, rfl⟩
  have HN := Lib.hid hn
  have HTD := Lib.hid hT
  rw [← hn] at hsz ⊢
  have hsz0 : Hid (d0.size < 4611686018427387904) := by unfold Hid; omega
  have hs0 : Hid (d0.size = n) := by unfold Hid; omega
  clear S hs hn hT
  go_enter Try.func47, Try.ntmps47
  go_wp2_with fail
  go_loopg [7, 8] n (fun kx s7 s8 wr => ∃ (k a b : Nat) (dk : Array Be), s7 = .int .i64 a ∧ s8 = .int .i64 b ∧ a + 20 ≤ b ∧ b ≤ a + 20 ∧ Hid (a = k * 20) ∧ a ≤ n ∧ n - a ≤ kx ∧ Aside (SWK enc2 2 w0 blk off dk wr) ∧ Hid (dk.size = n) ∧ Hid (PermIn 0 n d dk ∧ Tied dk) ∧ Hid (Bl (at_ dk) 20 k))
  case atStart => exact ⟨0, 0, 20, d, rfl, rfl, by omega, by omega, by unfold Hid; omega, by omega, by omega, S0, HN.out.symm, ⟨permIn_refl _ _ _, HTD.out⟩, fun t ht => by omega⟩
  case round =>
    clear S0
    obtain ⟨k, a, b, dk, rfl, rfl, hb1, hb2, hak, han, hkx, S1, Z1, P1, B1⟩ := hrel
    by_cases hlt : b ≤ n
    · have hltz : (b : Int) ≤ (n : Int) := by omega
      have c := ins_any blk off cap a b d0 dk w0 wr R (by rw [hs0.out, Z1.out]) S1.out (by omega) (by rw [Z1.out]; exact hlt) (by rw [Z1.out]; omega) P1.out.2
      rw [Z1.out] at c
      have C := Lib.hid c
      clear c S1
      go_wp2_with fail
      refine C.out.mono ?_
      rintro en w2 ⟨rfl, d2, s2, z2, p2, t2', x2⟩
      have S2 : Aside _ := s2
      have Z2 := Lib.hid z2
      have P2 : Hid (PermIn 0 n d d2 ∧ Tied d2) := (fun h => ⟨permIn_trans _ _ _ _ _ P1.out.1 h, t2'⟩) (permIn_mono dk d2 a b 0 n (Nat.zero_le _) hlt (by rw [Z1.out]; exact Nat.le_refl _) p2)
      have B2 : Hid (Bl (at_ d2) 20 (k + 1)) := bl_next (bl_keep p2 (by rw [← hak.out]; exact Nat.le_refl _) B1.out) (by
        have e1 : k * 20 = a := hak.out.symm
        have e2 : (k + 1) * 20 = b := by omega
        rw [e1, e2]; exact x2)
      have A2 : Hid (b = (k + 1) * 20) := by unfold Hid; have := hak.out; omega
      clear s2 z2 p2 t2' x2 C
      go_wp2_with fail
      go_roundg (n - b)
      case measure => omega
      case rel => exact ⟨k + 1, b, b + 20, d2, rfl, by go_num, by omega, by omega, A2.out, hlt, by omega, S2, Z2.out, P2.out, B2.out⟩
    · have hltz : (n : Int) < (b : Int) := by omega
      have c := ins_any blk off cap a n d0 dk w0 wr R (by rw [hs0.out, Z1.out]) S1.out (by omega) (by rw [Z1.out]; exact Nat.le_refl _) (by rw [Z1.out]; omega) P1.out.2
      rw [Z1.out] at c
      have C := Lib.hid c
      clear c S1 hlt
      go_wp2_with fail
      refine C.out.mono ?_
      rintro en w2 ⟨rfl, d2, s2, z2, p2, t2', x2⟩
      have S2 : Aside _ := s2
      have Z2 := Lib.hid z2
      have P2 : Hid (PermIn 0 n d d2 ∧ Tied d2) := (fun h => ⟨permIn_trans _ _ _ _ _ P1.out.1 h, t2'⟩) (permIn_mono dk d2 a n 0 n (Nat.zero_le _) (Nat.le_refl _) (by rw [Z1.out]; exact Nat.le_refl _) p2)
      have B2 : Hid (Br (at_ d2) 20 0 n) := br_all (k := k) (bl_keep p2 (by rw [← hak.out]; exact Nat.le_refl _) B1.out) (by rw [← hak.out]; exact x2) (by rw [← hak.out]; omega)
      clear s2 z2 p2 t2' x2 C P1 B1 Z1 hak hb1 hb2 hltz hkx han
      go_wp2_with fail
      go_loopg [6] n (fun kx s6 wr => ∃ (bs : Nat) (dk : Array Be), s6 = .int .i64 bs ∧ 0 < bs ∧ bs ≤ 4000000 ∧ n - bs ≤ kx ∧ Aside (SWK enc2 2 w0 blk off dk wr) ∧ Hid (dk.size = n) ∧ Hid (PermIn 0 n d dk ∧ Tied dk) ∧ Hid (Br (at_ dk) bs 0 n))
      case atStart => exact ⟨20, d2, rfl, by omega, by omega, by omega, S2, Z2.out, P2.out, B2.out⟩
      case round =>
        clear S2 Z2 P2 B2
        obtain ⟨bs, dk, rfl, hbs0, hbs1, hkx, S1, Z1, P1, B1⟩ := hrel
        by_cases hlt : bs < n
        · have hltz : (bs : Int) < (n : Int) := by omega
          obtain ⟨cc, hcc⟩ : ∃ cc, cc = 2 * bs := ⟨_, rfl⟩
          have E1 : (2 : Int) * (bs : Int) = (cc : Int) := by omega
          have E2 : (bs : Int) * 2 = (cc : Int) := by omega
          have hc1 : bs < cc := by omega
          have hc2 : cc ≤ 2000000 := by omega
          have HCC := Lib.hid hcc
          clear hcc
          go_wp2_with fail
          go_loopg [7, 8] n (fun kx s7 s8 wx => ∃ (k a b : Nat) (dj : Array Be), s7 = .int .i64 a ∧ s8 = .int .i64 b ∧ a + cc ≤ b ∧ b ≤ a + cc ∧ Hid (a = k * cc) ∧ a ≤ n ∧ n - a ≤ kx ∧ Aside (SWK enc2 2 w0 blk off dj wx) ∧ Hid (dj.size = n) ∧ Hid (PermIn 0 n d dj ∧ Tied dj) ∧ Hid (Bl (at_ dj) cc k) ∧ Hid (Br (at_ dj) bs a n))
          case atStart => exact ⟨0, 0, cc, dk, rfl, rfl, by omega, by omega, by unfold Hid; omega, by omega, by omega, S1, Z1.out, P1.out, fun t ht => by omega, B1.out⟩
          case round =>
            clear S1 Z1 P1 B1
            obtain ⟨k, a, b, dj, rfl, rfl, hb1, hb2, hak, han, hkx2, S1, Z1, P1, B1, Q1⟩ := hrel
            obtain ⟨t1, t2⟩ := br_two Q1.out
            obtain ⟨m, hm⟩ : ∃ m, m = a + bs := ⟨_, rfl⟩
            have EM : (a : Int) + (bs : Int) = (m : Int) := by omega
            have hma : a < m := by omega
            have hmb : m < b := by omega
            have hcm : Hid (a + 2 * bs = b) := by unfold Hid; have := HCC.out; omega
            rw [← hm] at t1 t2
            have T1 := Lib.hid t1
            have T2 := Lib.hid t2
            clear hm t1 t2
            by_cases hlt2 : b ≤ n
            · have hltz2 : (b : Int) ≤ (n : Int) := by omega
              have c := symMerge_any blk off cap d0 w0 R hsz0.out (b - a) a m b dj wr P1.out.2 (by rw [hs0.out, Z1.out]) S1.out hma hmb (by rw [Z1.out]; exact hlt2) (T1.out.less (by omega)) (T2.out.less (by have := hcm.out; omega)) (Nat.le_refl _)
              unfold Merges at c
              rw [Z1.out] at c
              have C := Lib.hid c
              clear c S1
              go_wp2_with fail
              refine C.out.mono ?_
              rintro en w3 ⟨rfl, d3, s3, z3, p3, t3', x3⟩
              have S3 : Aside _ := s3
              have Z3 := Lib.hid z3
              have P3 : Hid (PermIn 0 n d d3 ∧ Tied d3) := (fun h => ⟨permIn_trans _ _ _ _ _ P1.out.1 h, t3'⟩) (permIn_mono dj d3 a b 0 n (Nat.zero_le _) hlt2 (by rw [Z1.out]; exact Nat.le_refl _) p3)
              have e2 : (k + 1) * cc = b := by rw [Nat.add_mul, Nat.one_mul, ← hak.out]; omega
              have B3 : Hid (Bl (at_ d3) cc (k + 1)) := bl_next (bl_keep p3 (by rw [← hak.out]; exact Nat.le_refl _) B1.out) (by
                rw [← hak.out, e2]; exact x3)
              have Q3 : Hid (Br (at_ d3) bs b n) := by
                have := br_keep (lo := a) (by rw [hcm.out]; exact p3) Q1.out
                rw [hcm.out] at this
                exact this
              have A3 := Lib.hid e2
              clear s3 z3 p3 t3' x3 C e2
              go_wp2_with fail
              go_roundg (n - b)
              case measure => omega
              case rel => exact ⟨k + 1, b, b + cc, d3, rfl, by go_num, by omega, by omega, A3.out.symm, hlt2, by omega, S3, Z3.out, P3.out, B3.out, Q3.out⟩
            · have hltz2 : (n : Int) < (b : Int) := by omega
              clear hlt2
              by_cases hmn : m < n
              · have hmz : (m : Int) < (n : Int) := by omega
                have c := symMerge_any blk off cap d0 w0 R hsz0.out (n - a) a m n dj wr P1.out.2 (by rw [hs0.out, Z1.out]) S1.out hma hmn (by rw [Z1.out]; exact Nat.le_refl _) (T1.out.less (by omega)) (T2.out.less (by have := hcm.out; omega)) (Nat.le_refl _)
                unfold Merges at c
                rw [Z1.out] at c
                have C := Lib.hid c
                clear c S1
                go_wp2_with fail
                refine C.out.mono ?_
                rintro en w3 ⟨rfl, d3, s3, z3, p3, t3', x3⟩
                have S3 : Aside _ := s3
                have Z3 := Lib.hid z3
                have P3 : Hid (PermIn 0 n d d3 ∧ Tied d3) := (fun h => ⟨permIn_trans _ _ _ _ _ P1.out.1 h, t3'⟩) (permIn_mono dj d3 a n 0 n (Nat.zero_le _) (Nat.le_refl _) (by rw [Z1.out]; exact Nat.le_refl _) p3)
                have B3 : Hid (Br (at_ d3) cc 0 n) := br_all (k := k) (bl_keep p3 (by rw [← hak.out]; exact Nat.le_refl _) B1.out) (by rw [← hak.out]; exact x3) (by rw [← hak.out]; omega)
                clear s3 z3 p3 t3' x3 C
                go_wp2_with fail
                go_roundg (n - cc)
                case measure => omega
                case rel => exact ⟨cc, d3, rfl, by omega, by omega, by omega, S3, Z3.out, P3.out, B3.out⟩
              · have hmz : (n : Int) ≤ (m : Int) := by omega
                have B3 : Hid (Br (at_ dj) cc 0 n) := br_all (k := k) B1.out (by rw [← hak.out]; exact T1.out.less (by omega)) (by rw [← hak.out]; omega)
                clear hmn
                go_wp2_with fail
                go_roundg (n - cc)
                case measure => omega
                case rel => exact ⟨cc, dj, rfl, by omega, by omega, by omega, S1, Z1.out, P1.out, B3.out⟩
        · have hltz : (n : Int) ≤ (bs : Int) := by omega
          have HF : Hid (Srt (at_ dk) 0 n) := (br_two B1.out).1.less (by omega)
          clear hlt
          go_wp2_with fail
          go_end0
          exact ⟨rfl, dk, S1.out, Z1.out, P1.out.1, P1.out.2, HF.out⟩
end Sb
end Go.Proofs.Ytnefnnoleeeedaa
/- Contracts: what is wrong, sorted by places, else as it stood. -/
namespace Go.Proofs.Ytnefnnoleeeedaa
open Go.RowKit Go.Sort Go.Proofs Go.Shelf
namespace Sb
open Sc
/-- Numbered as they stand. -/
def tagF : Nat → List (Int × Int) → List Be
  | _, [] => []
  | i, x :: l => ⟨x.1, x.2, i⟩ :: tagF (i + 1) l
theorem tagF_len : ∀ (i : Nat) (l : List (Int × Int)), (tagF i l).length = l.length
  | _, [] => rfl
  | i, _ :: l => by rw [tagF, List.length_cons, List.length_cons, tagF_len]
theorem tagF_get : ∀ (i : Nat) (l : List (Int × Int)) (k : Nat) (x : Int × Int), l[k]? = some x → (tagF i l)[k]? = some ⟨x.1, x.2, i + k⟩
  | _, [], k, x, h => by simp at h
  | i, y :: l, 0, x, h => by
    simp only [List.getElem?_cons_zero, Option.some.injEq] at h
    subst h
    rfl
  | i, y :: l, k + 1, x, h => by
    rw [tagF, List.getElem?_cons_succ, tagF_get (i + 1) l k x (by simpa using h), show i + 1 + k = i + (k + 1) by omega]
def strip (x : Be) : Int × Int := (x.a, x.c)
theorem tagF_strip : ∀ (i : Nat) (l : List (Int × Int)), (tagF i l).map strip = l
  | _, [] => rfl
  | i, x :: l => by rw [tagF, List.map_cons, tagF_strip]; rfl
/-- The same ones by rising places, of one place as they stood. -/
def StSort (l l' : List (Int × Int)) : Prop := ∃ os : List Be, os.Perm (tagF 0 l) ∧ os.Pairwise (fun x y => LT x y = true) ∧ l' = os.map strip
theorem pw_uniq : ∀ {l m : List Be}, l.Perm m → l.Pairwise (fun x y => LT x y = true) → m.Pairwise (fun x y => LT x y = true) → l = m
  | [], m, h, _, _ => (List.nil_perm.1 h).symm
  | x :: l, [], h, _, _ => absurd h.length_eq (by simp)
  | x :: l, y :: m, h, h1, h2 => by
    obtain ⟨a1, a2⟩ := List.pairwise_cons.1 h1
    obtain ⟨b1, b2⟩ := List.pairwise_cons.1 h2
    have e : x = y := by
      have hx : x ∈ y :: m := h.subset List.mem_cons_self
      have hy : y ∈ x :: l := h.symm.subset List.mem_cons_self
      rcases List.mem_cons.1 hx with e | hx
      · exact e
      · rcases List.mem_cons.1 hy with e | hy
        · exact e.symm
        · have := lt_asymm (a1 y hy)
          rw [b1 x hx] at this
          cases this
    subst e
    rw [pw_uniq (List.Perm.cons_inv h) a2 b2]
theorem StSort.uniq {l a b : List (Int × Int)} (h : StSort l a) (k : StSort l b) : a = b := by
  obtain ⟨o1, p1, w1, rfl⟩ := h
  obtain ⟨o2, p2, w2, rfl⟩ := k
  rw [pw_uniq (p1.trans p2.symm) w1 w2]
theorem StSort.len {l a : List (Int × Int)} (h : StSort l a) : a.length = l.length := by
  obtain ⟨o, p, _, rfl⟩ := h
  rw [List.length_map, p.length_eq, tagF_len]
theorem StSort.nil : StSort [] [] := ⟨[], List.Perm.refl _, List.Pairwise.nil, rfl⟩
/-- A slice's elements, in memory: in a block from lo on, ahead of hi. -/
def RowAt {α : Type} (w : World) (lo hi : Nat) (f : α → List Value) (sz : Nat) (A : Option Addr) (l : List α) : Prop :=
  0 < l.length → ∃ g, A = some ⟨g, 0, none⟩ ∧ lo ≤ g ∧ g < hi ∧ ∀ i x, l[i]? = some x → ∀ j u, (f x)[j]? = some u → w.cell? ⟨g, i * sz + j, none⟩ = some u
theorem RowAt.keep {α : Type} {w w' : World} {lo hi : Nat} {f : α → List Value} {sz : Nat} {A : Option Addr} {l : List α} (h : RowAt w lo hi f sz A l) (hb : ∀ g, lo ≤ g → g < hi → w'.heap[g]? = w.heap[g]?) : RowAt w' lo hi f sz A l := fun h0 => by
  obtain ⟨g, e, h1, h2, hc⟩ := h h0
  exact ⟨g, e, h1, h2, fun i x hx j u hj => (World.cell?_of_block (w := w) (hb g h1 h2)).trans (hc i x hx j u hj)⟩
theorem RowAt.of_own {α : Type} {w : World} {B e sz n c : Nat} {f : α → List Value} {A : Option Addr} {l : List α} (h : w.ownsRow B e sz (.slice A n c) n (l.flatMap f)) (hf : ∀ x, (f x).length = sz) (hn : n = l.length) : RowAt w B w.heap.size f sz A l := fun h0 => by
  obtain ⟨x, hx⟩ : ∃ x, l[0]? = some x := ⟨l[0], List.getElem?_eq_getElem h0⟩
  obtain ⟨g, c', e1, _, hg, hob, _⟩ := row_get h hf hx hn
  have hlt := h.lt g hob
  injection e1 with e1 _ _
  refine ⟨g, e1, hlt.1, hg, fun i x hx j u hj => ?_⟩
  obtain ⟨g', c', e2, _, _, _, hc⟩ := row_get h hf hx hn
  injection e2 with e2 _ _
  rw [e1] at e2
  injection e2 with e2
  injection e2 with e2
  subst e2
  exact hc j u hj
theorem swk_fr {w0 W : World} {blk off : Nat} {dk : Array Be} (S : SWK enc2 2 w0 blk off dk W) : W.os = w0.os ∧ W.tape = w0.tape ∧ W.output = w0.output ∧ w0.heap.size ≤ W.heap.size ∧ ∀ k, k < w0.heap.size → k ≠ blk → W.heap[k]? = w0.heap[k]? := by
  obtain ⟨n, os, rfl⟩ := S
  refine ⟨rfl, rfl, rfl, ?_, fun k hk hn => ?_⟩
  · unfold sortWorldK; rw [size_grow, size_putRowK]; show w0.heap.size ≤ w0.heap.size + _; omega
  · unfold sortWorldK putRowK putRow mapBlock Go.Sort.grow Go.Sort.ahead
    have h1 : k < (w0.heap.modify blk (onCells (putCells id off (flatK enc2 2 dk)))).size := by simp; omega
    simp only [Array.getElem?_append, h1, if_true, Array.getElem?_modify]
    rw [if_neg (by omega)]
theorem own_holds {w : World} {base g cap : Nat} {l : List (Int × Int)} (h : w.ownsRow base 50 2 (.slice (some ⟨g, 0, none⟩) l.length cap) l.length (l.flatMap baC)) : HoldsK enc2 2 w g 0 (tagF 0 l).toArray := fun t ht => by
  rw [size_flatK] at ht
  have ht' : t < l.length * 2 := by simpa [tagF_len] using ht
  rw [get_flatK _ _ _ _ ht]
  have hi : t / 2 < l.length := by omega
  obtain ⟨x, hx⟩ : ∃ x, l[t / 2]? = some x := ⟨l[t / 2], List.getElem?_eq_getElem hi⟩
  have e : (tagF 0 l).toArray[t / 2]! = ⟨x.1, x.2, 0 + t / 2⟩ := by
    have hh := tagF_get 0 l _ _ hx
    have hl : t / 2 < (tagF 0 l).toArray.size := by simpa [tagF_len] using hi
    rw [getElem!_pos (tagF 0 l).toArray _ hl, ← Option.some.injEq, ← hh]
    simp
  rw [e]
  obtain ⟨g', c', e2, _, _, _, hc⟩ := row_get h (fun _ => rfl) hx rfl
  injection e2 with e2 _ _
  injection e2 with e2
  injection e2 with e2
  subst e2
  have hr : t % 2 = 0 ∨ t % 2 = 1 := by omega
  refine ⟨?_, h.frozenAt (0 + t)⟩
  rcases hr with hr | hr
  · have := hc 0 (.int .i64 x.1) rfl
    rw [hr, show 0 + t = t / 2 * 2 + 0 by omega, this]
    rfl
  · have := hc 1 (.int .i64 x.2) rfl
    rw [hr, show 0 + t = t / 2 * 2 + 1 by omega, this]
    rfl
theorem tag_tied (l : List (Int × Int)) : Tied (tagF 0 l).toArray := by
  have key : ∀ k, k < (tagF 0 l).toArray.size → (at_ (tagF 0 l).toArray k).t = k := fun k hk => by
    have hk' : k < l.length := by simpa [tagF_len] using hk
    have hh := tagF_get 0 l k _ (List.getElem?_eq_getElem hk')
    unfold at_
    rw [getElem!_pos (tagF 0 l).toArray _ hk]
    have e : (tagF 0 l).toArray[k] = ⟨l[k].1, l[k].2, 0 + k⟩ := by
      rw [← Option.some.injEq, ← hh]
      simp
    rw [e]
    simp
  intro i j hij hj _
  rw [key i (by omega), key j hj]
  exact hij
set_option maxHeartbeats 2000000 in
set_option maxRecDepth 100000 in
theorem stable_none (A : Option Addr) (cap : Nat) (fv : Value) (w : World) : Calls Try.prog 47 #[.slice A 0 cap, .int .i64 0, fv] w fun e w' => e = .returned (.tuple #[]) ∧ w' = w := by
  have h68 : ∀ w, Calls Try.prog 68 #[.slice A 0 cap, .int .i64 0, .int .i64 0, fv] w fun e w' => e = .returned (.tuple #[]) ∧ w' = w := fun w => by
    go_enter Try.func68, Try.ntmps68
    go_wp2_with fail
    refine wp_loop_rounds 1 ?_
    rw [rounds_succ]
    go_wp2
    go_end0
    exact ⟨rfl, rfl⟩
  go_enter Try.func47, Try.ntmps47
  go_wp2_with fail
  refine wp_loop_rounds 1 ?_
  rw [rounds_succ]
  go_wp2_with (go_at_call 68; refine (h68 _).mono ?_; rintro e w' ⟨rfl, rfl⟩)
  refine wp_loop_rounds 1 ?_
  rw [rounds_succ]
  go_wp2
  go_end0
  exact ⟨rfl, rfl⟩
set_option maxHeartbeats 4000000 in
set_option maxRecDepth 100000 in
theorem sortBad_any {w : World} {B n c : Nat} {A : Option Addr} {l : List (Int × Int)} (h : w.ownsRow B 50 2 (.slice A n c) n (l.flatMap baC)) (hn : n = l.length) (hl : l.length ≤ 1000000) :
    Calls Try.prog 22 #[.slice A n c, .func (.func 23) #[] #[]] w fun e w' => e = .returned (.tuple #[]) ∧ (∃ l', StSort l l' ∧ RowAt w' B w'.heap.size baC 2 A l') ∧ w'.os = w.os ∧ w'.tape = w.tape ∧ w'.output = w.output ∧ w.heap.size ≤ w'.heap.size ∧ ∀ k, k < w.heap.size → (Value.slice A n c).ownBlock ≠ some k → w'.heap[k]? = w.heap[k]? := by
  subst hn
  by_cases h0 : l = []
  · subst h0
    simp only [List.length_nil]
    go_enter Try.func22, Try.ntmps22
    go_wp2_with (go_at_call 47; refine (stable_none _ _ _ _).mono ?_; rintro e w' ⟨rfl, rfl⟩)
    go_end0
    exact ⟨rfl, ⟨[], .nil, fun h => by simp at h⟩, rfl, rfl, rfl, Nat.le_refl _, fun _ _ _ => rfl⟩
  · have hlen : 0 < l.length := List.length_pos_iff.2 h0
    obtain ⟨x, hx⟩ : ∃ x, l[0]? = some x := ⟨l[0], List.getElem?_eq_getElem hlen⟩
    obtain ⟨g, c', e1, hc1, hg, hob, _⟩ := row_get h (fun _ => rfl) hx rfl
    rw [hob]
    injection e1 with e1 _ e3
    subst e1 e3
    have HLO : Hid (B ≤ g) := (h.lt g hob).1
    have hH := own_holds h
    have R : RowK enc2 2 w g 0 (tagF 0 l).toArray := ⟨enc2_len, enc2_one, hH, hg⟩
    have e0 : (tagF 0 l).toArray.size = l.length := by simp [tagF_len]
    have cc := stable_any g 0 c (tagF 0 l).toArray (tagF 0 l).toArray w w R rfl (SWK.start hH) (by rw [e0]; exact hl) (tag_tied l)
    rw [e0] at cc
    have C := Lib.hid cc
    have RR := Lib.hid R
    have E0 := Lib.hid e0
    obtain ⟨nn, hnn⟩ : ∃ nn, nn = l.length := ⟨_, rfl⟩
    have HNN := Lib.hid hnn
    rw [← hnn] at C ⊢
    clear cc R hH h hx e0 hlen hc1 hnn hob hl
    go_enter Try.func22, Try.ntmps22
    go_wp2_with fail
    refine C.out.mono ?_
    rintro e w2 ⟨rfl, d', s2, z2, p2, t2, x2⟩
    have S2 : Aside _ := s2
    have Z2 := Lib.hid z2
    have P2 := Lib.hid p2
    have X2 := Lib.hid x2
    have T2 := Lib.hid t2
    clear s2 z2 p2 x2 t2 C
    go_wp2_with fail
    go_end0
    have Z : d'.size = l.length := by rw [Z2.out, HNN.out]
    have S2' : SWK enc2 2 w g 0 d' w2 := S2.out
    refine ⟨rfl, ⟨d'.toList.map strip, ⟨d'.toList, ?_, ?_, rfl⟩, ?_⟩, ?_⟩
    · have h1 := P2.out.2.2
      have h2 : d'.extract 0 nn = d' := by rw [HNN.out, ← Z]; simp
      have h3 : (tagF 0 l).toArray.extract 0 nn = (tagF 0 l).toArray := by rw [HNN.out, ← E0.out]; simp
      rw [h2, h3] at h1
      simpa using h1
    · rw [List.pairwise_iff_getElem]
      intro i j hi hj hij
      have hj' : j < d'.size := by simpa using hj
      have h1 := X2.out i j (Nat.zero_le _) hij (by rw [HNN.out, ← Z]; exact hj')
      have h2 := T2.out i j hij hj'
      unfold at_ at h1 h2
      rw [getElem!_pos d' j hj', getElem!_pos d' i (by omega)] at h1 h2
      rw [show d'.toList[i] = d'[i]'(by omega) from by simp, show d'.toList[j] = d'[j] from by simp]
      unfold LT at *
      simp only [decide_eq_true_iff, decide_eq_false_iff_not] at *
      omega
    · intro _
      refine ⟨g, rfl, HLO.out, S2'.lt RR.out.hblk, fun i y hy j u hj => ?_⟩
      have hi : i < d'.size := by
        have := (List.getElem?_eq_some_iff.1 hy).1
        simpa using this
      obtain ⟨⟨k1, k2⟩, _⟩ := swk_cells S2' RR.out (by rw [Z, E0.out]) i hi
      have e : y = strip d'[i]! := by
        rw [getElem!_pos d' i hi]
        rw [List.getElem?_map, List.getElem?_eq_getElem (by simpa using hi)] at hy
        simpa using hy.symm
      subst e
      rcases j with _ | _ | j
      · simp only [strip, List.getElem?_cons_zero, Option.some.injEq] at hj
        subst hj
        simpa using k1
      · simp only [strip, Nat.zero_add, List.getElem?_cons_succ, List.getElem?_cons_zero, Option.some.injEq] at hj
        subst hj
        simpa using k2
      · simp at hj
    · obtain ⟨a1, a2, a3, a4, a5⟩ := swk_fr S2'
      exact ⟨a1, a2, a3, a4, fun k hk hne => a5 k hk (fun e => hne (by rw [e]))⟩
end Sb
end Go.Proofs.Ytnefnnoleeeedaa
/- Contracts: the names of a file, scope.Of. -/
namespace Go.Proofs.Ytnefnnoleeeedaa
open Go.RowKit Go.Op
namespace Sc
open Sb
theorem binds_ok : ∀ (l : Tr) (i : Nat) (s : St), Ok s → 0 ≤ s.lam → s.lam ≤ 1000000 → Ok (binds i l s) ∧ (binds i l s).lam = s.lam
  | .nil, _, s, h, _, _ => ⟨h, rfl⟩
  | .cons hd _ r, i, s, h, h0, h1 => by
    rw [binds]
    have g := bind1_ok hd (s := { s with item := (i : Int) }) (h.item _) ⟨h0, h1⟩
    have hl : (bind1 hd { s with item := (i : Int) }).lam = s.lam := g.lam
    have := binds_ok r (i + 1) _ g.ok (by rw [hl]; exact h0) (by rw [hl]; exact h1)
    exact ⟨this.1, this.2.trans hl⟩
theorem items_ok : ∀ (l : Tr) (i : Nat) (s : St), Ok s → 0 ≤ s.lam → s.lam + l.cnt ≤ 1000000 → Ok (items i l s) ∧ (items i l s).lam = s.lam
  | .nil, _, s, h, _, _ => ⟨h, rfl⟩
  | .cons hd k r, i, s, h, h0, h1 => by
    rw [items]
    rw [Tr.cnt] at h1
    have g := node_ok hd (nodes k) k.cnt (fun s a b c => nodes_ok k s a b c) { s with item := (i : Int) } (h.item _) h0 (by show s.lam + _ ≤ _; omega)
    have hl : (node hd (nodes k) { s with item := (i : Int) }).lam = s.lam := g.lam
    have := items_ok r (i + 1) _ g.ok (by rw [hl]; exact h0) (by rw [hl]; omega)
    exact ⟨this.1, this.2.trans hl⟩
set_option maxHeartbeats 4000000 in
set_option maxRecDepth 100000 in
theorem clo20_any {X : Wc} {h : Hi} {A : Option Addr} {n cap : Nat} {w : World} {R : Ending → World → Prop} (p0 p1 : Nat) (r0 : RowB w p0 68 #[X.p]) (r1 : RowB w p1 25 (hcc h A n cap)) (hc : Calls Try.prog 21 #[X.p, .slice A n cap] w fun e w' => e = .returned (.tuple #[]) ∧ R e w') :
    Calls Try.prog 20 #[.pointer (some ⟨p0, 0, none⟩), .pointer (some ⟨p1, 0, none⟩)] w R := by
  have y0 := r0.cell
  have y1 := r1.cell
  have CC := Lib.hid hc
  obtain ⟨b, mb, B⟩ := X
  simp only [hcc] at *
  clear r0 r1 hc
  go_enter Try.func20, Try.ntmps20
  go_wp2_with fail
  refine CC.out.mono ?_
  rintro e w2 ⟨rfl, hR⟩
  go_wp2_with fail
  go_end0
  exact hR
/-- What Of answers: the rows of a map. -/
def OfA (w : World) (st : St) (e : Ending) (w' : World) : Prop :=
  ∃ A1 c1 A2 c2 A3 c3 l3, e = .returned (.agg #[.slice A1 st.bs.length c1, .slice A2 st.ms.length c2, .slice A3 st.bad.length c3]) ∧ StSort st.bad l3 ∧ RowAt w' w.heap.size w'.heap.size bdC 4 A1 st.bs ∧ RowAt w' w.heap.size w'.heap.size mnC 4 A2 st.ms ∧ RowAt w' w.heap.size w'.heap.size baC 2 A3 l3 ∧ st.bs.length ≤ c1 ∧ st.ms.length ≤ c2 ∧ st.bad.length ≤ c3 ∧ st.bs.length + st.ms.length + st.bad.length ≤ 100000000 ∧ Below w.heap.size w w'
/-- What the names of a tree are. -/
def ofS (h : Hi) (k : Tr) : St := if h.kind = 1 then file k else .none
set_option maxHeartbeats 8000000 in
set_option maxRecDepth 100000 in
theorem of_none {w : World} (h : Hi) (A : Option Addr) (n cap : Nat) (hk : h.kind ≠ 1) : Calls Try.prog 10 #[hvv h A n cap] w (OfA w .none) := by
  have hk' : (h.kind != 1) = true := by rw [bne_iff_ne]; exact hk
  obtain ⟨kd, fro, til, word, at_⟩ := h
  simp only [hvv] at *
  have HB : Hid (Below w.heap.size w ((w.alloc (.cells #[.int .i64 kd, .int .i64 fro, .int .i64 til, .string word, .int .i64 at_, .slice A n cap] 25)).alloc (.cells #[.slice none 0 0, .slice none 0 0, .slice none 0 0] 34))) := (belA w _).alloc (by simp) _
  have RZ := Lib.hid (RowB.new (w.alloc (.cells #[.int .i64 kd, .int .i64 fro, .int .i64 til, .string word, .int .i64 at_, .slice A n cap] 25)) 34 #[.slice none 0 0, .slice none 0 0, .slice none 0 0])
  go_enter Try.func10, Try.ntmps10
  go_wp2
  have y9 := RZ.out.cell
  simp only [World.size_alloc] at y9
  refine bodyPost_ret (v := .agg #[.slice none 0 0, .slice none 0 0, .slice none 0 0]) ?_ rfl ⟨none, 0, none, 0, none, 0, [], rfl, StSort.nil, fun h => by simp [St.none] at h, fun h => by simp [St.none] at h, fun h => by simp at h, Nat.le_refl _, Nat.le_refl _, Nat.le_refl _, by simp [St.none], HB.out⟩
  simp [results, Try.results10, go_sem, y9]
  try first | rfl | exact ⟨rfl, rfl⟩
set_option maxHeartbeats 8000000 in
set_option maxRecDepth 100000 in
theorem of_file {w : World} (h : Hi) (k : Tr) (A : Option Addr) (cap : Nat) (hk : h.kind = 1) (ht : TV w w.heap.size k A cap) (hc : k.cnt ≤ 100000) : Calls Try.prog 10 #[hvv h A k.len cap] w (OfA w (file k)) := by
  obtain ⟨kd, fro, til, word, at_⟩ := h
  simp only at hk
  subst hk
  have hmm := @run_makeMap Try.prog
  obtain ⟨n, hn⟩ : ∃ n, n = k.len := ⟨_, rfl⟩
  obtain ⟨W1, hW1⟩ : ∃ W1, W1 = (w.alloc (.cells #[.int .i64 1, .int .i64 fro, .int .i64 til, .string word, .int .i64 at_, .slice A n cap] 25)).alloc (.cells #[.slice none 0 0, .slice none 0 0, .slice none 0 0] 34) := ⟨_, rfl⟩
  obtain ⟨W2, hW2⟩ : ∃ W2, W2 = W1.alloc (.map #[] 0) := ⟨_, rfl⟩
  obtain ⟨W3, hW3⟩ : ∃ W3, W3 = W2.alloc (.cells (wcc (.slice none 0 0) (.slice none 0 0) (.slice none 0 0) (.slice none 0 0) (w.heap.size + 2) none 0 0) 72) := ⟨_, rfl⟩
  obtain ⟨W4, hW4⟩ : ∃ W4, W4 = W3.alloc (.cells #[Wc.p ⟨w.heap.size + 3, w.heap.size + 2, w.heap.size⟩] 68) := ⟨_, rfl⟩
  have S1 : W1.heap.size = w.heap.size + 2 := by rw [hW1]; simp
  have S2 : W2.heap.size = w.heap.size + 3 := by rw [hW2]; simp [S1]
  have S3 : W3.heap.size = w.heap.size + 4 := by rw [hW3]; simp [S2]
  have S4 : W4.heap.size = w.heap.size + 5 := by rw [hW4]; simp [S3]
  have r1 : RowB W4 w.heap.size 25 #[.int .i64 1, .int .i64 fro, .int .i64 til, .string word, .int .i64 at_, .slice A n cap] := by rw [hW4, hW3, hW2, hW1]; exact ((((RowB.new w 25 _).alloc _).alloc _).alloc _).alloc _
  have r2 : RowB W4 (w.heap.size + 1) 34 #[.slice none 0 0, .slice none 0 0, .slice none 0 0] := by
    have := RowB.new (w.alloc (.cells #[.int .i64 1, .int .i64 fro, .int .i64 til, .string word, .int .i64 at_, .slice A n cap] 25)) 34 #[.slice none 0 0, .slice none 0 0, .slice none 0 0]
    rw [show (w.alloc (.cells #[.int .i64 1, .int .i64 fro, .int .i64 til, .string word, .int .i64 at_, .slice A n cap] 25)).heap.size = w.heap.size + 1 by simp, ← hW1] at this
    rw [hW4, hW3, hW2]
    exact ((this.alloc _).alloc _).alloc _
  have rm : MF W4 (w.heap.size + 2) 0 fun _ => none := by
    have := MF.new W1
    rw [S1, ← hW2] at this
    refine this.of_block ?_
    rw [hW4, hW3]
    exact (Below.heap_alloc _ _ _ (by rw [← hW3, S3]; omega)).trans (Below.heap_alloc _ _ _ (by rw [S2]; omega))
  have rb : RowB W4 (w.heap.size + 3) 72 (wcc (.slice none 0 0) (.slice none 0 0) (.slice none 0 0) (.slice none 0 0) (w.heap.size + 2) none 0 0) := by
    have := RowB.new W2 72 (wcc (.slice none 0 0) (.slice none 0 0) (.slice none 0 0) (.slice none 0 0) (w.heap.size + 2) none 0 0)
    rw [S2, ← hW3] at this
    rw [hW4]
    exact this.alloc _
  have r4 : RowB W4 (w.heap.size + 4) 68 #[Wc.p ⟨w.heap.size + 3, w.heap.size + 2, w.heap.size⟩] := by
    have := RowB.new W3 68 #[Wc.p ⟨w.heap.size + 3, w.heap.size + 2, w.heap.size⟩]
    rw [S3, ← hW4] at this
    exact this
  have hB4 : Below w.heap.size w W4 := by rw [hW4, hW3, hW2, hW1]; exact (((((belA w _).alloc (by simp) _).alloc (by simp; omega) _).alloc (by simp; omega) _).alloc (by simp; omega) _)
  have hws : WSr ⟨w.heap.size + 3, w.heap.size + 2, w.heap.size⟩ W4 (fun g => g = w.heap.size + 3 ∨ g = w.heap.size + 2) none .none 0 (.slice none 0 0) (.slice none 0 0) (.slice none 0 0) (.slice none 0 0) 0 0 :=
    ⟨rb, World.ownsRow_nil _ _ _ _, World.ownsRow_nil _ _ _ _, World.ownsRow_nil _ _ _ _, World.ownsRow_nil _ _ _ _, ⟨_, rm, fun _ => rfl⟩, ⟨rfl, rfl⟩, (by simp), Nat.le_refl _, .inl rfl, .inr rfl, (fun h e => by cases e), (fun g e => by cases e), (fun g e => by cases e), (fun g e => by cases e), (fun g e => by cases e), (fun g hg => by rcases hg with rfl | rfl <;> exact ⟨by simp, by rw [S4]; omega⟩)⟩
  have hTH : Thru ⟨w.heap.size + 3, w.heap.size + 2, w.heap.size⟩ W4 (fun g => g = w.heap.size + 3 ∨ g = w.heap.size + 2) 0 (8 * k.cnt) .none 0 (fun s => items 0 k (binds 0 k s)) 20 #[.pointer (some ⟨w.heap.size + 4, 0, none⟩), .pointer (some ⟨w.heap.size, 0, none⟩)] := fun hb N1 w1 K1 a1 a2 a3 a4 a5 => by
    have q0 : RowB w1 (w.heap.size + 4) 68 _ := (a4 _ r4.lt (by omega)).trans r4
    have q1 : RowB w1 w.heap.size 25 _ := (a4 _ r1.lt (by omega)).trans r1
    obtain rfl : N1 = 0 := by omega
    have hold : Old w.heap.size w w1 := fun g hg => (a4 g (by rw [S4]; omega) (by omega)).trans (hB4.block g hg)
    refine clo20_any (h := ⟨1, fro, til, word, at_⟩) _ _ q0 q1 ?_
    rw [hn]
    exact (file_any k w1 K1 hb (enter 0 .none) 0 A cap a1 (enter_ok 0 Ok.none) (by decide) (by show (0 : Int) + 0 + _ ≤ _; omega) (by omega) (ht.keep hold) (Nat.le_trans (show w.heap.size ≤ W4.heap.size by omega) a3)).mono fun e w' h => ⟨h.1, h⟩
  have hlam : (items 0 k (binds 0 k (enter 0 .none))).lam = St.none.lam + 0 := by
    obtain ⟨b1, b2⟩ := binds_ok k 0 (enter 0 .none) (enter_ok 0 Ok.none) (by decide) (by decide)
    have hl0 : (enter 0 St.none).lam = 0 := rfl
    rw [hl0] at b2
    obtain ⟨_, c2⟩ := items_ok k 0 _ b1 (by rw [b2]; decide) (by rw [b2]; omega)
    rw [c2, b2]
    rfl
  have CT := Lib.hid (through_any hws 0 (.inl rfl) ⟨by decide, by decide⟩ 20 _ (fun s => items 0 k (binds 0 k s)) (8 * k.cnt) hTH (enterF _ _ (by decide)) hlam (by omega))
  have HB4 := Lib.hid hB4
  have R2 := Lib.hid r2
  have R4 := Lib.hid r4
  have SS := Lib.hid S4
  have HWA := Lib.hid (show W4 = ((((w.alloc (.cells #[.int .i64 1, .int .i64 fro, .int .i64 til, .string word, .int .i64 at_, .slice A n cap] 25)).alloc (.cells #[.slice none 0 0, .slice none 0 0, .slice none 0 0] 34)).alloc (.map #[] 0)).alloc (.cells (wcc (.slice none 0 0) (.slice none 0 0) (.slice none 0 0) (.slice none 0 0) (w.heap.size + 2) none 0 0) 72)).alloc (.cells #[Wc.p ⟨w.heap.size + 3, w.heap.size + 2, w.heap.size⟩] 68) by rw [hW4, hW3, hW2, hW1])
  have hmf : ∀ (fn : Fn) (first cap : Array Value) (w : World), (Instr.makeFunc fn first cap).run Try.prog w = .ok (.func fn first cap) w := fun _ _ _ _ => rfl
  have HC := Lib.hid hc
  simp only [hvv]
  rw [← hn]
  clear hTH hlam hws r1 r2 rm rb r4 hB4 S1 S2 S3 S4 hW1 hW2 hW3 hW4 ht hn hc
  go_enter Try.func10, Try.ntmps10
  go_wp2_with fail
  rw [show w.heap.size + 1 + 1 + 1 + 1 = w.heap.size + 4 from rfl, show w.heap.size + 1 + 1 + 1 = w.heap.size + 3 from rfl, show w.heap.size + 1 + 1 = w.heap.size + 2 from rfl, ← HWA.out]
  refine CT.out.mono ?_
  rintro e W5 ⟨rfl, K5, ⟨v1, v2, v3, v4, nm, nh, h5⟩, g5⟩
  have hsz : W4.heap.size = w.heap.size + 5 := SS.out
  obtain ⟨st, hst⟩ : ∃ st, st = file k := ⟨_, rfl⟩
  have HST := Lib.hid hst
  have h5' : WSr ⟨w.heap.size + 3, w.heap.size + 2, w.heap.size⟩ W5 K5 none st (0 + 8 * k.cnt) v1 v2 v3 v4 nm nh := by rw [hst]; exact h5
  clear h5
  obtain ⟨A1, c1, rfl, hc1⟩ := own_shape h5'.o1
  obtain ⟨A2, c2, rfl, hc2⟩ := own_shape h5'.o2
  obtain ⟨A3, c3, rfl, hc3⟩ := own_shape h5'.o3
  have k1 : ¬ K5 (w.heap.size + 1) := fun hk => by rcases g5.own _ hk with h | h <;> omega
  have k4 : ¬ K5 (w.heap.size + 4) := fun hk => by rcases g5.own _ hk with h | h <;> omega
  have q2 := g5.row R2.out (by omega)
  have q4 := g5.row R4.out (by omega)
  have hlen : st.bad.length ≤ 1000000 := by have := h5'.sum; have := HC.out; omega
  have CS := Lib.hid (sortBad_any h5'.o3 rfl hlen)
  have HB5 : Hid (Below w.heap.size w W5) := ⟨g5.os.trans HB4.out.os, g5.tape.trans HB4.out.tape, g5.output.trans HB4.out.output, Nat.le_trans HB4.out.size g5.size, fun g hg => (g5.block g (by omega) (by omega)).trans (HB4.out.block g hg)⟩
  have HK1 := Lib.hid k1
  have HK4 := Lib.hid k4
  have H5 := Lib.hid h5'
  have Q2 := Lib.hid q2
  have Q4 := Lib.hid q4
  have y4 := q4.cell
  have yb := h5'.row.cell
  have HLC := Lib.hid (show st.bs.length ≤ c1 ∧ st.ms.length ≤ c2 ∧ st.bad.length ≤ c3 ∧ st.bs.length + st.ms.length + st.bad.length ≤ 100000000 from ⟨hc1, hc2, hc3, by have := h5'.sum; have := HC.out; omega⟩)
  obtain ⟨n1, hn1⟩ : ∃ n1, n1 = st.bs.length := ⟨_, rfl⟩
  obtain ⟨n2, hn2⟩ : ∃ n2, n2 = st.ms.length := ⟨_, rfl⟩
  obtain ⟨n3, hn3⟩ : ∃ n3, n3 = st.bad.length := ⟨_, rfl⟩
  have HN := Lib.hid (show n1 = st.bs.length ∧ n2 = st.ms.length ∧ n3 = st.bad.length from ⟨hn1, hn2, hn3⟩)
  rw [← hn1, ← hn2, ← hn3] at yb
  rw [← hn3] at CS
  simp only at yb
  clear h5' q2 q4 k1 k4 hlen hc1 hc2 hc3 CT R2 R4 HB4 HWA hst g5 hsz hn1 hn2 hn3
  go_wp2_with fail
  refine CS.out.mono ?_
  rintro e W6 ⟨rfl, ⟨l3, hl3, hr3⟩, o1, o2, o3, o4, o5⟩
  have hs5 := H5.out
  have hne3 : ∀ g, ¬ K5 g → (Value.slice A3 n3 c3).ownBlock ≠ some g := fun g hg e => hg (hs5.k3 g (by rw [← HN.out.2.2]; exact e))
  have hb3 : (Value.slice A3 n3 c3).ownBlock ≠ some (w.heap.size + 3) := fun e => own_ne_row hs5.o3 hs5.row (by decide) (by rw [← HN.out.2.2]; exact e)
  have hrow := (show W6.heap[w.heap.size + 3]? = W5.heap[w.heap.size + 3]? from o5 _ hs5.row.lt hb3).trans hs5.row
  have p2 : RowB W6 (w.heap.size + 1) 34 _ := (o5 _ Q2.out.lt (hne3 _ HK1.out)).trans Q2.out
  have p4 : RowB W6 (w.heap.size + 4) 68 _ := (o5 _ Q4.out.lt (hne3 _ HK4.out)).trans Q4.out
  have z1 : W6.ownsRow w.heap.size 45 4 _ _ _ := own_block hs5.o1 fun g e => o5 g (hs5.lt g (hs5.k1 g e)).2 (fun e2 => by
    rw [HN.out.2.2] at e2
    rcases own_apart hs5.o1 hs5.o3 (by decide) with a | a
    · rw [a] at e; cases e
    · exact a (e.trans e2.symm))
  have z2 : W6.ownsRow w.heap.size 47 4 _ _ _ := own_block hs5.o2 fun g e => o5 g (hs5.lt g (hs5.k2 g e)).2 (fun e2 => by
    rw [HN.out.2.2] at e2
    rcases own_apart hs5.o2 hs5.o3 (by decide) with a | a
    · rw [a] at e; cases e
    · exact a (e.trans e2.symm))
  have HS6 : Hid (∀ u1 u2 u3, Below w.heap.size w (((W6.setCell ⟨w.heap.size + 1, 0, none⟩ u1).setCell ⟨w.heap.size + 1, 1, none⟩ u2).setCell ⟨w.heap.size + 1, 2, none⟩ u3)) := fun u1 u2 u3 =>
    (((show Below w.heap.size w W6 from ⟨o1.trans HB5.out.os, o2.trans HB5.out.tape, o3.trans HB5.out.output, Nat.le_trans HB5.out.size o4, fun g hg => (o5 g (Nat.lt_of_lt_of_le hg HB5.out.size) (hne3 g (fun hk => by have := (hs5.lt g hk).1; simp only at this; omega))).trans (HB5.out.block g hg)⟩).setCell (by show w.heap.size ≤ w.heap.size + 1; omega) _).setCell (by show w.heap.size ≤ w.heap.size + 1; omega) _).setCell (by show w.heap.size ≤ w.heap.size + 1; omega) _
  have hset : ∀ u1 u2 u3 g, g ≠ w.heap.size + 1 → (((W6.setCell ⟨w.heap.size + 1, 0, none⟩ u1).setCell ⟨w.heap.size + 1, 1, none⟩ u2).setCell ⟨w.heap.size + 1, 2, none⟩ u3).heap[g]? = W6.heap[g]? := fun u1 u2 u3 g hg =>
    (Below.heap_setCell _ _ _ g hg).trans ((Below.heap_setCell _ _ _ g hg).trans (Below.heap_setCell _ _ _ g hg))
  have ZA : Hid (∀ u1 u2 u3, RowAt (((W6.setCell ⟨w.heap.size + 1, 0, none⟩ u1).setCell ⟨w.heap.size + 1, 1, none⟩ u2).setCell ⟨w.heap.size + 1, 2, none⟩ u3) w.heap.size (((W6.setCell ⟨w.heap.size + 1, 0, none⟩ u1).setCell ⟨w.heap.size + 1, 1, none⟩ u2).setCell ⟨w.heap.size + 1, 2, none⟩ u3).heap.size bdC 4 A1 st.bs) := fun u1 u2 u3 => RowAt.of_own (own_block z1 fun g e => hset u1 u2 u3 g (fun e2 => HK1.out (e2 ▸ hs5.k1 g e))) (fun _ => rfl) rfl
  have ZB : Hid (∀ u1 u2 u3, RowAt (((W6.setCell ⟨w.heap.size + 1, 0, none⟩ u1).setCell ⟨w.heap.size + 1, 1, none⟩ u2).setCell ⟨w.heap.size + 1, 2, none⟩ u3) w.heap.size (((W6.setCell ⟨w.heap.size + 1, 0, none⟩ u1).setCell ⟨w.heap.size + 1, 1, none⟩ u2).setCell ⟨w.heap.size + 1, 2, none⟩ u3).heap.size mnC 4 A2 st.ms) := fun u1 u2 u3 => RowAt.of_own (own_block z2 fun g e => hset u1 u2 u3 g (fun e2 => HK1.out (e2 ▸ hs5.k2 g e))) (fun _ => rfl) rfl
  have ZC : Hid (∀ u1 u2 u3, RowAt (((W6.setCell ⟨w.heap.size + 1, 0, none⟩ u1).setCell ⟨w.heap.size + 1, 1, none⟩ u2).setCell ⟨w.heap.size + 1, 2, none⟩ u3) w.heap.size (((W6.setCell ⟨w.heap.size + 1, 0, none⟩ u1).setCell ⟨w.heap.size + 1, 1, none⟩ u2).setCell ⟨w.heap.size + 1, 2, none⟩ u3).heap.size baC 2 A3 l3) := fun u1 u2 u3 h0 => by
    obtain ⟨g, e1, hlo, hg, hc⟩ := hr3 h0
    have hgn : g ≠ w.heap.size + 1 := fun e2 => hne3 _ HK1.out (by rw [e1, e2]; rfl)
    exact ⟨g, e1, hlo, by simpa [World.setCell] using hg, fun i x hx j u hj => (World.cell?_of_block (w := W6) (hset u1 u2 u3 g hgn)).trans (hc i x hx j u hj)⟩
  have y4 := p4.cell
  have yb : ∀ i, W6.cell? ⟨w.heap.size + 3, i, none⟩ = (wcc (.slice A1 n1 c1) (.slice A2 n2 c2) (.slice A3 n3 c3) v4 (w.heap.size + 2) none st.lam st.item)[i]? := fun i => by rw [HN.out.1, HN.out.2.1, HN.out.2.2]; exact RowB.cell (show RowB W6 (w.heap.size + 3) 72 _ from hrow) i
  have yc := p2.cell
  have yt := p2.thaw
  have PP := Lib.hid p2
  have HL3 := Lib.hid hl3
  clear hs5 hne3 hb3 hrow p2 p4 z1 z2 hset o1 o2 o3 o4 o5 hl3 hr3 CS H5 HB5 Q2 Q4 HK1 HK4
  go_wp2
  have y9 := (((PP.out.put 0 (.slice A1 n1 c1)).put 1 (.slice A2 n2 c2)).put 2 (.slice A3 n3 c3)).cell
  refine bodyPost_ret (v := .agg #[.slice A1 n1 c1, .slice A2 n2 c2, .slice A3 n3 c3]) ?_ rfl (by rw [← HST.out]; exact ⟨A1, c1, A2, c2, A3, c3, l3, by rw [HN.out.1, HN.out.2.1, HN.out.2.2], HL3.out, ZA.out _ _ _, ZB.out _ _ _, ZC.out _ _ _, HLC.out.1, HLC.out.2.1, HLC.out.2.2.1, HLC.out.2.2.2, HS6.out _ _ _⟩)
  simp [results, Try.results10, go_sem, y9]
  try first | rfl | exact ⟨rfl, rfl⟩
theorem of_any {w : World} (h : Hi) (k : Tr) (A : Option Addr) (cap : Nat) (ht : TV w w.heap.size k A cap) (hc : k.cnt ≤ 100000) : Calls Try.prog 10 #[hvv h A k.len cap] w (OfA w (ofS h k)) := by
  unfold ofS
  split
  · rename_i hk
    exact of_file h k A cap hk ht hc
  · rename_i hk
    exact of_none h A k.len cap hk
end Sc
end Go.Proofs.Ytnefnnoleeeedaa
/- Contracts: is a tree small, by the document. -/
namespace Go.Proofs.Ytnefnnoleeeedaa
open Go.RowKit Go.Op
namespace Sc
theorem TC.up {w : World} {B B' : Nat} (hB : B ≤ B') : ∀ (f : Tr) (cs : List Value), TC w B f cs → TC w B' f cs
  | .nil, cs, h => by rw [TC] at h ⊢; exact h
  | .cons hd k r, cs, h => by
    rw [TC] at h ⊢
    obtain ⟨A, cap, cs', e, hw, hc, hk, hr⟩ := h
    refine ⟨A, cap, cs', e, hw, hc, fun h0 => ?_, TC.up hB r cs' hr⟩
    obtain ⟨g, o, ck, e1, h1, h3, h4⟩ := hk h0
    exact ⟨g, o, ck, e1, by omega, h3, TC.up hB k ck h4⟩
theorem TV.up {w : World} {B B' : Nat} (hB : B ≤ B') {k : Tr} {A : Option Addr} {cap : Nat} (h : TV w B k A cap) : TV w B' k A cap := by
  refine ⟨h.1, fun h0 => ?_⟩
  obtain ⟨g, o, ck, e1, h1, h3, h4⟩ := h.2 h0
  exact ⟨g, o, ck, e1, by omega, h3, TC.up hB k ck h4⟩
def SizeA (w : World) (most : Nat) (k : Tr) (e : Ending) (w' : World) : Prop := ∃ r : Nat, e = .returned (.int .i64 r) ∧ 1 ≤ r ∧ r ≤ most + 1 ∧ (r ≤ most → r = k.cnt + 1) ∧ Below w.heap.size w w'
set_option maxHeartbeats 8000000 in
set_option maxRecDepth 100000 in
theorem size_any : ∀ (dp : Nat) (most : Nat) (h : Hi) (k : Tr) (A : Option Addr) (cap B : Nat) (w : World), TV w B k A cap → B ≤ w.heap.size → most ≤ 1000 → dp ≤ 1000 →
    Calls Try.prog 27 #[hvv h A k.len cap, .int .i64 most, .int .i64 dp] w (SizeA w most k)
  | 0, most, h, k, A, cap, B, w, ht, hB, hm, hd => by
    have HB := Lib.hid (belA w (.cells (hcc h A k.len cap) 25))
    have e1 : IntKind.i64.wrap ((most : Int) + 1) = ((most + 1 : Nat) : Int) := by rw [IntKind.wrap_i64]; omega
    simp only [hcc, hvv] at *
    have HM := Lib.hid hm
    clear ht hB hm hd
    go_enter Try.func27, Try.ntmps27
    go_wp2
    (first | go_ret | go_ret2)
    exact ⟨most + 1, by first | rfl | (simp; try omega), by omega, by omega, fun h => by omega, HB.out⟩
  | dp + 1, most, h, k, A, cap, B, w, ht, hB, hm, hd => by
    have IH : Hid (∀ (most : Nat) (h : Hi) (k : Tr) (A : Option Addr) (cap B : Nat) (w : World), TV w B k A cap → B ≤ w.heap.size → most ≤ 1000 → Calls Try.prog 27 #[hvv h A k.len cap, .int .i64 most, .int .i64 dp] w (SizeA w most k)) :=
      fun most h k A cap B w a b c => size_any dp most h k A cap B w a b c (by omega)
    have HT := Lib.hid ht
    have HBB := Lib.hid hB
    have HB0 := Lib.hid (belA w (.cells (hcc h A k.len cap) 25))
    have HR0 := Lib.hid (RowB.new w 25 (hcc h A k.len cap))
    obtain ⟨bx, hbx⟩ : ∃ bx, bx = w.heap.size := ⟨_, rfl⟩
    have HBX := Lib.hid hbx
    obtain ⟨n0, hn0⟩ : ∃ n0, n0 = k.len := ⟨_, rfl⟩
    have HN0 := Lib.hid hn0
    obtain ⟨dq, hdq⟩ : ∃ dq : Nat, dq = dp + 1 := ⟨_, rfl⟩
    have g0 : ((dq : Int) == 0) = false := by rw [beq_eq_false_iff_ne]; omega
    have e0 : IntKind.i64.wrap ((dq : Int) - 1) = (dp : Int) := by rw [IntKind.wrap_i64]; omega
    rw [show ((dp + 1 : Nat) : Int) = (dq : Int) by rw [hdq]]
    simp only [hcc, hvv] at *
    rw [← hn0] at HB0 HR0 ⊢
    rw [← hbx] at HR0
    clear ht hB hn0 hdq
    go_enter Try.func27, Try.ntmps27
    go_wp2_with fail
    rw [← hbx]
    clear hbx
    go_loopg [7, 8] (n0 + 1) (fun kx s7 s8 wr => ∃ (i c : Nat), s8 = .int .i64 i ∧ s7 = .int .i64 c ∧ n0 - i ≤ kx ∧ i ≤ n0 ∧ i + 1 ≤ c ∧ c ≤ most + 1 ∧ Hid (c ≤ most → c + (k.drop i).cnt = k.cnt + 1) ∧ Hid (Below w.heap.size w wr) ∧ Hid (RowB wr bx 25 #[.int .i64 h.kind, .int .i64 h.fro, .int .i64 h.til, .string h.word, .int .i64 h.at_, .slice A n0 cap]))
    case atStart => exact ⟨0, 1, rfl, rfl, by omega, by omega, by omega, by omega, fun _ => by rw [Tr.drop_zero]; omega, HB0.out, HR0.out⟩
    case round =>
      clear HB0 HR0
      obtain ⟨i, c, rfl, rfl, hkx, hin, hc1, hc2, HC, HB, HR⟩ := hrel
      have y1 := HR.out.cell
      by_cases hi : i < n0
      · have hil : (i : Int) < (n0 : Int) := by omega
        by_cases hcm : c ≤ most
        · have hcl : (c : Int) ≤ (most : Int) := by omega
          obtain ⟨h', kk, e⟩ := Tr.drop_cons k i (by rw [← HN0.out]; exact hi)
          have hold : Old B w wr := fun g hg => HB.out.block g (by have := HBB.out; omega)
          obtain ⟨_, g, o, A2, c2, rfl, hg, hkk, c0, c1, c2', c3, c4, c5⟩ := TV.nth (HT.out.keep hold) e
          have hcn : (k.drop i).cnt = kk.cnt + (k.drop (i + 1)).cnt + 1 := by rw [e, Tr.cnt]
          obtain ⟨m2, hm2⟩ : ∃ m2 : Nat, m2 = most - c := ⟨_, rfl⟩
          have em : IntKind.i64.wrap ((most : Int) - (c : Int)) = (m2 : Int) := by rw [IntKind.wrap_i64]; omega
          have HBw : B ≤ wr.heap.size := Nat.le_trans HBB.out HB.out.size
          have CC := Lib.hid (IH.out m2 h' kk A2 c2 B wr hkk HBw (by omega))
          obtain ⟨nk, hnk⟩ : ∃ nk, nk = kk.len := ⟨_, rfl⟩
          (try simp only [hvv] at CC)
          rw [← hnk] at c5 CC
          have HCN := Lib.hid (show (k.drop i).cnt = kk.cnt + (k.drop (i + 1)).cnt + 1 ∧ m2 + c = most from ⟨hcn, by omega⟩)
          have ei : IntKind.i64.wrap ((i : Int) + 1) = ((i + 1 : Nat) : Int) := by rw [IntKind.wrap_i64]; omega
          obtain ⟨j, hj⟩ : ∃ j, j = i + 1 := ⟨_, rfl⟩
          rw [← hj] at ei
          have HJ := Lib.hid hj
          clear e hkk hcn hold hnk hm2 HBw hj
          go_wp2_with fail
          refine CC.out.mono ?_
          rintro e2 w2 ⟨r, rfl, hr1, hr2, hr3, hb2⟩
          have HB2 := Lib.hid (HB.out.trans (hb2.mono HB.out.size))
          have HR2 := Lib.hid (HR.out.below hb2 HR.out.lt)
          have HR3 := Lib.hid hr3
          obtain ⟨c3', hc3'⟩ : ∃ c3 : Nat, c3 = c + r := ⟨_, rfl⟩
          have ec : IntKind.i64.wrap ((c : Int) + (r : Int)) = (c3' : Int) := by rw [IntKind.wrap_i64]; have := HCN.out; omega
          have HC3 := Lib.hid hc3'
          clear hb2 hr3 hc3' CC HB HR y1
          go_wp2_with fail
          have hj := HJ.out
          have hc3' := HC3.out
          go_roundg (n0 - j)
          case measure => omega
          case rel => exact ⟨j, c3', rfl, rfl, by omega, by omega, by omega, by have := HCN.out; omega, fun h => by
            have h1 := HR3.out (by have := HCN.out; omega)
            have h2 := HC.out hcm
            have h3 := HCN.out
            rw [hj]
            omega, HB2.out, HR2.out⟩
        · have hcl : decide (c ≤ most) = false := decide_eq_false hcm
          have FE : Hid (SizeA w most k (.returned (.int .i64 c)) wr) := ⟨c, rfl, by omega, hc2, fun h => by omega, HB.out⟩
          clear hcm HC HB HR
          go_wp2_with fail
          (first | go_ret | go_ret2)
          exact FE.out
      · have hd1 : decide (i < n0) = false := decide_eq_false hi
        have hd2 : decide ((i : Int) < (n0 : Int)) = false := decide_eq_false (by omega)
        have FE : Hid (SizeA w most k (.returned (.int .i64 c)) wr) := ⟨c, rfl, by omega, hc2, fun h => by
          have h2 := HC.out h
          rw [Tr.drop_len k i (by rw [← HN0.out]; omega)] at h2
          simpa [Tr.cnt] using h2, HB.out⟩
        clear hi HC HB HR
        go_wp2_with fail
        (first | go_ret | go_ret2)
        exact FE.out
set_option maxHeartbeats 4000000 in
set_option maxRecDepth 100000 in
theorem small_any (most dp : Nat) (h : Hi) (k : Tr) (A : Option Addr) (cap B : Nat) (w : World) (ht : TV w B k A cap) (hB : B ≤ w.heap.size) (hm : most ≤ 1000) (hd : dp ≤ 1000) :
    Calls Try.prog 12 #[hvv h A k.len cap, .int .i64 most, .int .i64 dp] w fun e w' => ∃ b : Bool, e = .returned (.bool b) ∧ (b = true → k.cnt + 1 ≤ most) ∧ Below w.heap.size w w' := by
  have HB := Lib.hid (belA w (.cells (hcc h A k.len cap) 25))
  have CC := Lib.hid (size_any dp most h k A cap B (w.alloc (.cells (hcc h A k.len cap) 25)) (ht.keep (Old.of ((Below.refl _ _).alloc hB _))) (by simp; omega) hm hd)
  simp only [hcc, hvv] at *
  obtain ⟨n, hn⟩ : ∃ n, n = k.len := ⟨_, rfl⟩
  rw [← hn] at HB CC ⊢
  clear ht hB hn
  go_enter Try.func12, Try.ntmps12
  go_wp2_with fail
  refine CC.out.mono ?_
  rintro e w2 ⟨r, rfl, h1, h2, h3, h4⟩
  have H3 := Lib.hid h3
  have H4 := Lib.hid (HB.out.trans (h4.mono (by simp)))
  clear h3 h4 CC
  go_wp2_with fail
  (first | go_ret | go_ret2)
  exact ⟨decide (r ≤ most), by first | rfl | simp, fun h => by
    have hr : r ≤ most := by simpa using h
    have := H3.out hr
    omega, H4.out⟩
end Sc
end Go.Proofs.Ytnefnnoleeeedaa
