import Derived.Test.YthjflofcgdfekaaGreatDoorMAP
namespace Go.Proofs.YthjflofcgdfekaaGreatDoor
open Go.RowKit Go.Sort Go.Proofs Go.Shelf
namespace Sb
theorem ins_any (blk off cap a b : Nat) (d0 d : Array Be) (w0 w : World) (R : RowK enc2 2 w0 blk off d0) (hs : d0.size = d.size) (S : SWK enc2 2 w0 blk off d w) (hab : a ≤ b) (hb : b ≤ d.size) (hsz : d.size < 4611686018427387904) (hT : Tied d) :
    Calls Tryz.prog 179 #[.slice (some ⟨blk, off, none⟩) d.size cap, .int .i64 a, .int .i64 b, .func (.func 109) #[] #[]] w fun e w' => e = .returned (.tuple #[]) ∧ ∃ d', SWK enc2 2 w0 blk off d' w' ∧ d'.size = d.size ∧ PermIn a b d d' ∧ Tied d' ∧ Srt (at_ d') a b := by
  have h := insertionSort_holds swocf d a b hab hb
  have hT2 : Tied (insertionSort (ltOf cf) d a b) := insOuter_tied a b b (a + 1) d (by omega) hb hT
  have c := AnyQ.insertionSortCmpFunc ins20 2 Tryz.isAgg174 Tryz.sizeOf174 enc2 enc2_len enc2_one cf 109 #[] blk off cap a b d w enter109 (cmpLays23 blk off d.size w) (S.holds R.hblk R.hH hs.symm) (S.lt R.hblk) hab hb hsz
  change Calls Tryz.prog 179 _ _ _ at c
  refine c.mono ?_
  rintro e w' ⟨rfl, n, os, rfl⟩
  exact ⟨rfl, _, S.on R.hblk n _ os h.1.1, h.1.1, h.1, hT2, srt_of hT2 (by rw [h.1.1]; exact hb) h.2⟩
theorem Srt.less {d : Nat → Be} {a b b' : Nat} (h : Srt d a b) (hb : b' ≤ b) : Srt d a b' := fun x y hx hxy hy => h x y hx hxy (by omega)
theorem srt_void {d : Nat → Be} {a b : Nat} (h : b ≤ a) : Srt d a b := fun x y hx hxy hy => by omega
def Bl (d : Nat → Be) (bs k : Nat) : Prop := ∀ t, t < k → Srt d (t * bs) ((t + 1) * bs)
def Br (d : Nat → Be) (bs a n : Nat) : Prop := ∀ t, Srt d (a + t * bs) (min (a + (t + 1) * bs) n)
theorem bl_next {d : Nat → Be} {bs k : Nat} (h : Bl d bs k) (g : Srt d (k * bs) ((k + 1) * bs)) : Bl d bs (k + 1) := fun t ht => by
  rcases Nat.lt_or_ge t k with c | c
  · exact h t c
  · obtain rfl : t = k := by omega
    exact g
theorem bl_keep {d1 d2 : Array Be} {lo hi bs k : Nat} (h : PermIn lo hi d1 d2) (hk : k * bs ≤ lo) (g : Bl (at_ d1) bs k) : Bl (at_ d2) bs k := fun t ht => by
  have : (t + 1) * bs ≤ k * bs := Nat.mul_le_mul_right _ ht
  exact srt_keep h (.inl (by omega)) (g t ht)
theorem br_all {d : Nat → Be} {bs k n : Nat} (h : Bl d bs k) (g : Srt d (k * bs) n) (hn : n ≤ k * bs + bs) : Br d bs 0 n := fun t => by
  rw [Nat.zero_add, Nat.zero_add]
  rcases Nat.lt_or_ge t k with c | c
  · exact (h t c).less (Nat.min_le_left _ _)
  · rcases Nat.lt_or_ge k t with c2 | c2
    · have : (k + 1) * bs ≤ t * bs := Nat.mul_le_mul_right _ c2
      rw [Nat.add_mul, Nat.one_mul] at this
      exact srt_void (by have := Nat.min_le_right ((t + 1) * bs) n; omega)
    · obtain rfl : t = k := by omega
      exact g.less (Nat.min_le_right _ _)
theorem br_two {d : Nat → Be} {bs a n : Nat} (h : Br d bs a n) : Srt d a (min (a + bs) n) ∧ Srt d (a + bs) (min (a + 2 * bs) n) := by
  have h0 := h 0
  have h1 := h 1
  rw [Nat.zero_mul, Nat.add_zero, Nat.zero_add, Nat.one_mul] at h0
  rw [Nat.one_mul, show 1 + 1 = 2 from rfl] at h1
  exact ⟨h0, h1⟩
theorem br_keep {d1 d2 : Array Be} {lo bs a n : Nat} (h : PermIn lo (a + 2 * bs) d1 d2) (g : Br (at_ d1) bs a n) : Br (at_ d2) bs (a + 2 * bs) n := fun t => by
  have := g (t + 2)
  rw [Nat.add_mul, show t + 2 + 1 = (t + 1) + 2 from rfl, Nat.add_mul (t + 1)] at this
  refine srt_keep h (.inr (by omega)) ?_
  rw [show a + 2 * bs + t * bs = a + (t * bs + 2 * bs) by omega, show a + 2 * bs + (t + 1) * bs = a + ((t + 1) * bs + 2 * bs) by omega]
  exact this
set_option maxHeartbeats 16000000 in
set_option maxRecDepth 1000000 in
theorem stable_any (blk off cap : Nat) (d0 d : Array Be) (w0 w : World) (R : RowK enc2 2 w0 blk off d0) (hs : d0.size = d.size) (S : SWK enc2 2 w0 blk off d w) (hsz : d.size ≤ 1000000) (hT : Tied d) :
    Calls Tryz.prog 141 #[.slice (some ⟨blk, off, none⟩) d.size cap, .int .i64 d.size, .func (.func 109) #[] #[]] w fun e w' => e = .returned (.tuple #[]) ∧ ∃ d', SWK enc2 2 w0 blk off d' w' ∧ d'.size = d.size ∧ PermIn 0 d.size d d' ∧ Tied d' ∧ Srt (at_ d') 0 d.size := by
  have S0 : Aside (SWK enc2 2 w0 blk off d w) := S
  obtain ⟨n, hn⟩ : ∃ n, n = d.size := ⟨_, rfl⟩
  have HN := Lib.hid hn
  have HTD := Lib.hid hT
  rw [← hn] at hsz ⊢
  have hsz0 : Hid (d0.size < 4611686018427387904) := by unfold Hid; omega
  have hs0 : Hid (d0.size = n) := by unfold Hid; omega
  clear S hs hn hT
  go_enter Tryz.func141, Tryz.ntmps141
  go_wp2_with fail
  go_loopg [7, 8] n (fun kx s7 s8 wr => ∃ (k a b : Nat) (dk : Array Be), s7 = .int .i64 a ∧ s8 = .int .i64 b ∧ a + 20 ≤ b ∧ b ≤ a + 20 ∧ Hid (a = k * 20) ∧ a ≤ n ∧ n - a ≤ kx ∧ Aside (SWK enc2 2 w0 blk off dk wr) ∧ Hid (dk.size = n) ∧ Hid (PermIn 0 n d dk ∧ Tied dk) ∧ Hid (Bl (at_ dk) 20 k))
  case atStart => exact ⟨0, 0, 20, d, rfl, rfl, by omega, by omega, by unfold Hid; omega, by omega, by omega, S0, HN.out.symm, ⟨permIn_refl _ _ _, HTD.out⟩, fun t ht => by omega⟩
  case round =>
    clear S0
    obtain ⟨k, a, b, dk, rfl, rfl, hb1, hb2, hak, han, hkx, S1, Z1, P1, B1⟩ := hrel
    by_cases hlt : b ≤ n
    · have hltz : (b : Int) ≤ (n : Int) := by omega
      have c := ins_any blk off cap a b d0 dk w0 wr R (by rw [hs0.out, Z1.out]) S1.out (by omega) (by rw [Z1.out]; exact hlt) (by rw [Z1.out]; omega) P1.out.2
      rw [Z1.out] at c
      have C := Lib.hid c
      clear c S1
      go_wp2_with fail
      refine C.out.mono ?_
      rintro en w2 ⟨rfl, d2, s2, z2, p2, t2', x2⟩
      have S2 : Aside _ := s2
      have Z2 := Lib.hid z2
      have P2 : Hid (PermIn 0 n d d2 ∧ Tied d2) := (fun h => ⟨permIn_trans _ _ _ _ _ P1.out.1 h, t2'⟩) (permIn_mono dk d2 a b 0 n (Nat.zero_le _) hlt (by rw [Z1.out]; exact Nat.le_refl _) p2)
      have B2 : Hid (Bl (at_ d2) 20 (k + 1)) := bl_next (bl_keep p2 (by rw [← hak.out]; exact Nat.le_refl _) B1.out) (by
        have e1 : k * 20 = a := hak.out.symm
        have e2 : (k + 1) * 20 = b := by omega
        rw [e1, e2]; exact x2)
      have A2 : Hid (b = (k + 1) * 20) := by unfold Hid; have := hak.out; omega
      clear s2 z2 p2 t2' x2 C
      go_wp2_with fail
      go_roundg (n - b)
      case measure => omega
      case rel => exact ⟨k + 1, b, b + 20, d2, rfl, by go_num, by omega, by omega, A2.out, hlt, by omega, S2, Z2.out, P2.out, B2.out⟩
    · have hltz : (n : Int) < (b : Int) := by omega
      have c := ins_any blk off cap a n d0 dk w0 wr R (by rw [hs0.out, Z1.out]) S1.out (by omega) (by rw [Z1.out]; exact Nat.le_refl _) (by rw [Z1.out]; omega) P1.out.2
      rw [Z1.out] at c
      have C := Lib.hid c
      clear c S1 hlt
      go_wp2_with fail
      refine C.out.mono ?_
      rintro en w2 ⟨rfl, d2, s2, z2, p2, t2', x2⟩
      have S2 : Aside _ := s2
      have Z2 := Lib.hid z2
      have P2 : Hid (PermIn 0 n d d2 ∧ Tied d2) := (fun h => ⟨permIn_trans _ _ _ _ _ P1.out.1 h, t2'⟩) (permIn_mono dk d2 a n 0 n (Nat.zero_le _) (Nat.le_refl _) (by rw [Z1.out]; exact Nat.le_refl _) p2)
      have B2 : Hid (Br (at_ d2) 20 0 n) := br_all (k := k) (bl_keep p2 (by rw [← hak.out]; exact Nat.le_refl _) B1.out) (by rw [← hak.out]; exact x2) (by rw [← hak.out]; omega)
      clear s2 z2 p2 t2' x2 C P1 B1 Z1 hak hb1 hb2 hltz hkx han
      go_wp2_with fail
      go_loopg [6] n (fun kx s6 wr => ∃ (bs : Nat) (dk : Array Be), s6 = .int .i64 bs ∧ 0 < bs ∧ bs ≤ 4000000 ∧ n - bs ≤ kx ∧ Aside (SWK enc2 2 w0 blk off dk wr) ∧ Hid (dk.size = n) ∧ Hid (PermIn 0 n d dk ∧ Tied dk) ∧ Hid (Br (at_ dk) bs 0 n))
      case atStart => exact ⟨20, d2, rfl, by omega, by omega, by omega, S2, Z2.out, P2.out, B2.out⟩
      case round =>
        clear S2 Z2 P2 B2
        obtain ⟨bs, dk, rfl, hbs0, hbs1, hkx, S1, Z1, P1, B1⟩ := hrel
        by_cases hlt : bs < n
        · have hltz : (bs : Int) < (n : Int) := by omega
          obtain ⟨cc, hcc⟩ : ∃ cc, cc = 2 * bs := ⟨_, rfl⟩
          have E1 : (2 : Int) * (bs : Int) = (cc : Int) := by omega
          have E2 : (bs : Int) * 2 = (cc : Int) := by omega
          have hc1 : bs < cc := by omega
          have hc2 : cc ≤ 2000000 := by omega
          have HCC := Lib.hid hcc
          clear hcc
          go_wp2_with fail
          go_loopg [7, 8] n (fun kx s7 s8 wx => ∃ (k a b : Nat) (dj : Array Be), s7 = .int .i64 a ∧ s8 = .int .i64 b ∧ a + cc ≤ b ∧ b ≤ a + cc ∧ Hid (a = k * cc) ∧ a ≤ n ∧ n - a ≤ kx ∧ Aside (SWK enc2 2 w0 blk off dj wx) ∧ Hid (dj.size = n) ∧ Hid (PermIn 0 n d dj ∧ Tied dj) ∧ Hid (Bl (at_ dj) cc k) ∧ Hid (Br (at_ dj) bs a n))
          case atStart => exact ⟨0, 0, cc, dk, rfl, rfl, by omega, by omega, by unfold Hid; omega, by omega, by omega, S1, Z1.out, P1.out, fun t ht => by omega, B1.out⟩
          case round =>
            clear S1 Z1 P1 B1
            obtain ⟨k, a, b, dj, rfl, rfl, hb1, hb2, hak, han, hkx2, S1, Z1, P1, B1, Q1⟩ := hrel
            obtain ⟨t1, t2⟩ := br_two Q1.out
            obtain ⟨m, hm⟩ : ∃ m, m = a + bs := ⟨_, rfl⟩
            have EM : (a : Int) + (bs : Int) = (m : Int) := by omega
            have hma : a < m := by omega
            have hmb : m < b := by omega
            have hcm : Hid (a + 2 * bs = b) := by unfold Hid; have := HCC.out; omega
            rw [← hm] at t1 t2
            have T1 := Lib.hid t1
            have T2 := Lib.hid t2
            clear hm t1 t2
            by_cases hlt2 : b ≤ n
            · have hltz2 : (b : Int) ≤ (n : Int) := by omega
              have c := symMerge_any blk off cap d0 w0 R hsz0.out (b - a) a m b dj wr P1.out.2 (by rw [hs0.out, Z1.out]) S1.out hma hmb (by rw [Z1.out]; exact hlt2) (T1.out.less (by omega)) (T2.out.less (by have := hcm.out; omega)) (Nat.le_refl _)
              unfold Merges at c
              rw [Z1.out] at c
              have C := Lib.hid c
              clear c S1
              go_wp2_with fail
              refine C.out.mono ?_
              rintro en w3 ⟨rfl, d3, s3, z3, p3, t3', x3⟩
              have S3 : Aside _ := s3
              have Z3 := Lib.hid z3
              have P3 : Hid (PermIn 0 n d d3 ∧ Tied d3) := (fun h => ⟨permIn_trans _ _ _ _ _ P1.out.1 h, t3'⟩) (permIn_mono dj d3 a b 0 n (Nat.zero_le _) hlt2 (by rw [Z1.out]; exact Nat.le_refl _) p3)
              have e2 : (k + 1) * cc = b := by rw [Nat.add_mul, Nat.one_mul, ← hak.out]; omega
              have B3 : Hid (Bl (at_ d3) cc (k + 1)) := bl_next (bl_keep p3 (by rw [← hak.out]; exact Nat.le_refl _) B1.out) (by
                rw [← hak.out, e2]; exact x3)
              have Q3 : Hid (Br (at_ d3) bs b n) := by
                have := br_keep (lo := a) (by rw [hcm.out]; exact p3) Q1.out
                rw [hcm.out] at this
                exact this
              have A3 := Lib.hid e2
              clear s3 z3 p3 t3' x3 C e2
              go_wp2_with fail
              go_roundg (n - b)
              case measure => omega
              case rel => exact ⟨k + 1, b, b + cc, d3, rfl, by go_num, by omega, by omega, A3.out.symm, hlt2, by omega, S3, Z3.out, P3.out, B3.out, Q3.out⟩
            · have hltz2 : (n : Int) < (b : Int) := by omega
              clear hlt2
              by_cases hmn : m < n
              · have hmz : (m : Int) < (n : Int) := by omega
                have c := symMerge_any blk off cap d0 w0 R hsz0.out (n - a) a m n dj wr P1.out.2 (by rw [hs0.out, Z1.out]) S1.out hma hmn (by rw [Z1.out]; exact Nat.le_refl _) (T1.out.less (by omega)) (T2.out.less (by have := hcm.out; omega)) (Nat.le_refl _)
                unfold Merges at c
                rw [Z1.out] at c
                have C := Lib.hid c
                clear c S1
                go_wp2_with fail
                refine C.out.mono ?_
                rintro en w3 ⟨rfl, d3, s3, z3, p3, t3', x3⟩
                have S3 : Aside _ := s3
                have Z3 := Lib.hid z3
                have P3 : Hid (PermIn 0 n d d3 ∧ Tied d3) := (fun h => ⟨permIn_trans _ _ _ _ _ P1.out.1 h, t3'⟩) (permIn_mono dj d3 a n 0 n (Nat.zero_le _) (Nat.le_refl _) (by rw [Z1.out]; exact Nat.le_refl _) p3)
                have B3 : Hid (Br (at_ d3) cc 0 n) := br_all (k := k) (bl_keep p3 (by rw [← hak.out]; exact Nat.le_refl _) B1.out) (by rw [← hak.out]; exact x3) (by rw [← hak.out]; omega)
                clear s3 z3 p3 t3' x3 C
                go_wp2_with fail
                go_roundg (n - cc)
                case measure => omega
                case rel => exact ⟨cc, d3, rfl, by omega, by omega, by omega, S3, Z3.out, P3.out, B3.out⟩
              · have hmz : (n : Int) ≤ (m : Int) := by omega
                have B3 : Hid (Br (at_ dj) cc 0 n) := br_all (k := k) B1.out (by rw [← hak.out]; exact T1.out.less (by omega)) (by rw [← hak.out]; omega)
                clear hmn
                go_wp2_with fail
                go_roundg (n - cc)
                case measure => omega
                case rel => exact ⟨cc, dj, rfl, by omega, by omega, by omega, S1, Z1.out, P1.out, B3.out⟩
        · have hltz : (n : Int) ≤ (bs : Int) := by omega
          have HF : Hid (Srt (at_ dk) 0 n) := (br_two B1.out).1.less (by omega)
          clear hlt
          go_wp2_with fail
          go_end0
          exact ⟨rfl, dk, S1.out, Z1.out, P1.out.1, P1.out.2, HF.out⟩
end Sb
end Go.Proofs.YthjflofcgdfekaaGreatDoor
namespace Go.Proofs.YthjflofcgdfekaaGreatDoor
open Go.RowKit Go.Sort Go.Proofs Go.Shelf
namespace Sb
open Sc
def tagF : Nat → List (Int × Int) → List Be
  | _, [] => []
  | i, x :: l => ⟨x.1, x.2, i⟩ :: tagF (i + 1) l
theorem tagF_len : ∀ (i : Nat) (l : List (Int × Int)), (tagF i l).length = l.length
  | _, [] => rfl
  | i, _ :: l => by rw [tagF, List.length_cons, List.length_cons, tagF_len]
theorem tagF_get : ∀ (i : Nat) (l : List (Int × Int)) (k : Nat) (x : Int × Int), l[k]? = some x → (tagF i l)[k]? = some ⟨x.1, x.2, i + k⟩
  | _, [], k, x, h => by simp at h
  | i, y :: l, 0, x, h => by
    simp only [List.getElem?_cons_zero, Option.some.injEq] at h
    subst h
    rfl
  | i, y :: l, k + 1, x, h => by
    rw [tagF, List.getElem?_cons_succ, tagF_get (i + 1) l k x (by simpa using h), show i + 1 + k = i + (k + 1) by omega]
def strip (x : Be) : Int × Int := (x.a, x.c)
def StSort (l l' : List (Int × Int)) : Prop := ∃ os : List Be, os.Perm (tagF 0 l) ∧ os.Pairwise (fun x y => LT x y = true) ∧ l' = os.map strip
theorem pw_uniq : ∀ {l m : List Be}, l.Perm m → l.Pairwise (fun x y => LT x y = true) → m.Pairwise (fun x y => LT x y = true) → l = m
  | [], m, h, _, _ => (List.nil_perm.1 h).symm
  | x :: l, [], h, _, _ => absurd h.length_eq (by simp)
  | x :: l, y :: m, h, h1, h2 => by
    obtain ⟨a1, a2⟩ := List.pairwise_cons.1 h1
    obtain ⟨b1, b2⟩ := List.pairwise_cons.1 h2
    have e : x = y := by
      have hx : x ∈ y :: m := h.subset List.mem_cons_self
      have hy : y ∈ x :: l := h.symm.subset List.mem_cons_self
      rcases List.mem_cons.1 hx with e | hx
      · exact e
      · rcases List.mem_cons.1 hy with e | hy
        · exact e.symm
        · have := lt_asymm (a1 y hy)
          rw [b1 x hx] at this
          cases this
    subst e
    rw [pw_uniq (List.Perm.cons_inv h) a2 b2]
theorem StSort.uniq {l a b : List (Int × Int)} (h : StSort l a) (k : StSort l b) : a = b := by
  obtain ⟨o1, p1, w1, rfl⟩ := h
  obtain ⟨o2, p2, w2, rfl⟩ := k
  rw [pw_uniq (p1.trans p2.symm) w1 w2]
theorem StSort.len {l a : List (Int × Int)} (h : StSort l a) : a.length = l.length := by
  obtain ⟨o, p, _, rfl⟩ := h
  rw [List.length_map, p.length_eq, tagF_len]
theorem StSort.nil : StSort [] [] := ⟨[], List.Perm.refl _, List.Pairwise.nil, rfl⟩
def RowAt {α : Type} (w : World) (lo hi : Nat) (f : α → List Value) (sz : Nat) (A : Option Addr) (l : List α) : Prop :=
  0 < l.length → ∃ g, A = some ⟨g, 0, none⟩ ∧ lo ≤ g ∧ g < hi ∧ ∀ i x, l[i]? = some x → ∀ j u, (f x)[j]? = some u → w.cell? ⟨g, i * sz + j, none⟩ = some u
theorem RowAt.keep {α : Type} {w w' : World} {lo hi : Nat} {f : α → List Value} {sz : Nat} {A : Option Addr} {l : List α} (h : RowAt w lo hi f sz A l) (hb : ∀ g, lo ≤ g → g < hi → w'.heap[g]? = w.heap[g]?) : RowAt w' lo hi f sz A l := fun h0 => by
  obtain ⟨g, e, h1, h2, hc⟩ := h h0
  exact ⟨g, e, h1, h2, fun i x hx j u hj => (World.cell?_of_block (w := w) (hb g h1 h2)).trans (hc i x hx j u hj)⟩
theorem RowAt.of_own {α : Type} {w : World} {B e sz n c : Nat} {f : α → List Value} {A : Option Addr} {l : List α} (h : w.ownsRow B e sz (.slice A n c) n (l.flatMap f)) (hf : ∀ x, (f x).length = sz) (hn : n = l.length) : RowAt w B w.heap.size f sz A l := fun h0 => by
  obtain ⟨x, hx⟩ : ∃ x, l[0]? = some x := ⟨l[0], List.getElem?_eq_getElem h0⟩
  obtain ⟨g, c', e1, _, hg, hob, _⟩ := row_get h hf hx hn
  have hlt := h.lt g hob
  injection e1 with e1 _ _
  refine ⟨g, e1, hlt.1, hg, fun i x hx j u hj => ?_⟩
  obtain ⟨g', c', e2, _, _, _, hc⟩ := row_get h hf hx hn
  injection e2 with e2 _ _
  rw [e1] at e2
  injection e2 with e2
  injection e2 with e2
  subst e2
  exact hc j u hj
theorem swk_fr {w0 W : World} {blk off : Nat} {dk : Array Be} (S : SWK enc2 2 w0 blk off dk W) : W.os = w0.os ∧ W.tape = w0.tape ∧ W.output = w0.output ∧ w0.heap.size ≤ W.heap.size ∧ ∀ k, k < w0.heap.size → k ≠ blk → W.heap[k]? = w0.heap[k]? := by
  obtain ⟨n, os, rfl⟩ := S
  refine ⟨rfl, rfl, rfl, ?_, fun k hk hn => ?_⟩
  · unfold sortWorldK; rw [size_grow, size_putRowK]; show w0.heap.size ≤ w0.heap.size + _; omega
  · unfold sortWorldK putRowK putRow mapBlock Go.Sort.grow Go.Sort.ahead
    have h1 : k < (w0.heap.modify blk (onCells (putCells id off (flatK enc2 2 dk)))).size := by simp; omega
    simp only [Array.getElem?_append, h1, if_true, Array.getElem?_modify]
    rw [if_neg (by omega)]
theorem own_holds {w : World} {base g cap : Nat} {l : List (Int × Int)} (h : w.ownsRow base 174 2 (.slice (some ⟨g, 0, none⟩) l.length cap) l.length (l.flatMap baC)) : HoldsK enc2 2 w g 0 (tagF 0 l).toArray := fun t ht => by
  rw [size_flatK] at ht
  have ht' : t < l.length * 2 := by simpa [tagF_len] using ht
  rw [get_flatK _ _ _ _ ht]
  have hi : t / 2 < l.length := by omega
  obtain ⟨x, hx⟩ : ∃ x, l[t / 2]? = some x := ⟨l[t / 2], List.getElem?_eq_getElem hi⟩
  have e : (tagF 0 l).toArray[t / 2]! = ⟨x.1, x.2, 0 + t / 2⟩ := by
    have hh := tagF_get 0 l _ _ hx
    have hl : t / 2 < (tagF 0 l).toArray.size := by simpa [tagF_len] using hi
    rw [getElem!_pos (tagF 0 l).toArray _ hl, ← Option.some.injEq, ← hh]
    simp
  rw [e]
  obtain ⟨g', c', e2, _, _, _, hc⟩ := row_get h (fun _ => rfl) hx rfl
  injection e2 with e2 _ _
  injection e2 with e2
  injection e2 with e2
  subst e2
  have hr : t % 2 = 0 ∨ t % 2 = 1 := by omega
  refine ⟨?_, h.frozenAt (0 + t)⟩
  rcases hr with hr | hr
  · have := hc 0 (.int .i64 x.1) rfl
    rw [hr, show 0 + t = t / 2 * 2 + 0 by omega, this]
    rfl
  · have := hc 1 (.int .i64 x.2) rfl
    rw [hr, show 0 + t = t / 2 * 2 + 1 by omega, this]
    rfl
theorem tag_tied (l : List (Int × Int)) : Tied (tagF 0 l).toArray := by
  have key : ∀ k, k < (tagF 0 l).toArray.size → (at_ (tagF 0 l).toArray k).t = k := fun k hk => by
    have hk' : k < l.length := by simpa [tagF_len] using hk
    have hh := tagF_get 0 l k _ (List.getElem?_eq_getElem hk')
    unfold at_
    rw [getElem!_pos (tagF 0 l).toArray _ hk]
    have e : (tagF 0 l).toArray[k] = ⟨l[k].1, l[k].2, 0 + k⟩ := by
      rw [← Option.some.injEq, ← hh]
      simp
    rw [e]
    simp
  intro i j hij hj _
  rw [key i (by omega), key j hj]
  exact hij
set_option maxHeartbeats 2000000 in
set_option maxRecDepth 100000 in
theorem stable_none (A : Option Addr) (cap : Nat) (fv : Value) (w : World) : Calls Tryz.prog 141 #[.slice A 0 cap, .int .i64 0, fv] w fun e w' => e = .returned (.tuple #[]) ∧ w' = w := by
  have h68 : ∀ w, Calls Tryz.prog 179 #[.slice A 0 cap, .int .i64 0, .int .i64 0, fv] w fun e w' => e = .returned (.tuple #[]) ∧ w' = w := fun w => by
    go_enter Tryz.func179, Tryz.ntmps179
    go_wp2_with fail
    refine wp_loop_rounds 1 ?_
    rw [rounds_succ]
    go_wp2
    go_end0
    exact ⟨rfl, rfl⟩
  go_enter Tryz.func141, Tryz.ntmps141
  go_wp2_with fail
  refine wp_loop_rounds 1 ?_
  rw [rounds_succ]
  go_wp2_with (go_at_call 179; refine (h68 _).mono ?_; rintro e w' ⟨rfl, rfl⟩)
  refine wp_loop_rounds 1 ?_
  rw [rounds_succ]
  go_wp2
  go_end0
  exact ⟨rfl, rfl⟩
set_option maxHeartbeats 4000000 in
set_option maxRecDepth 100000 in
theorem sortBad_any {w : World} {B n c : Nat} {A : Option Addr} {l : List (Int × Int)} (h : w.ownsRow B 174 2 (.slice A n c) n (l.flatMap baC)) (hn : n = l.length) (hl : l.length ≤ 1000000) :
    Calls Tryz.prog 108 #[.slice A n c, .func (.func 109) #[] #[]] w fun e w' => e = .returned (.tuple #[]) ∧ (∃ l', StSort l l' ∧ RowAt w' B w'.heap.size baC 2 A l') ∧ w'.os = w.os ∧ w'.tape = w.tape ∧ w'.output = w.output ∧ w.heap.size ≤ w'.heap.size ∧ ∀ k, k < w.heap.size → (Value.slice A n c).ownBlock ≠ some k → w'.heap[k]? = w.heap[k]? := by
  subst hn
  by_cases h0 : l = []
  · subst h0
    simp only [List.length_nil]
    go_enter Tryz.func108, Tryz.ntmps108
    go_wp2_with (go_at_call 141; refine (stable_none _ _ _ _).mono ?_; rintro e w' ⟨rfl, rfl⟩)
    go_end0
    exact ⟨rfl, ⟨[], .nil, fun h => by simp at h⟩, rfl, rfl, rfl, Nat.le_refl _, fun _ _ _ => rfl⟩
  · have hlen : 0 < l.length := List.length_pos_iff.2 h0
    obtain ⟨x, hx⟩ : ∃ x, l[0]? = some x := ⟨l[0], List.getElem?_eq_getElem hlen⟩
    obtain ⟨g, c', e1, hc1, hg, hob, _⟩ := row_get h (fun _ => rfl) hx rfl
    rw [hob]
    injection e1 with e1 _ e3
    subst e1 e3
    have HLO : Hid (B ≤ g) := (h.lt g hob).1
    have hH := own_holds h
    have R : RowK enc2 2 w g 0 (tagF 0 l).toArray := ⟨enc2_len, enc2_one, hH, hg⟩
    have e0 : (tagF 0 l).toArray.size = l.length := by simp [tagF_len]
    have cc := stable_any g 0 c (tagF 0 l).toArray (tagF 0 l).toArray w w R rfl (SWK.start hH) (by rw [e0]; exact hl) (tag_tied l)
    rw [e0] at cc
    have C := Lib.hid cc
    have RR := Lib.hid R
    have E0 := Lib.hid e0
    obtain ⟨nn, hnn⟩ : ∃ nn, nn = l.length := ⟨_, rfl⟩
    have HNN := Lib.hid hnn
    rw [← hnn] at C ⊢
    clear cc R hH h hx e0 hlen hc1 hnn hob hl
    go_enter Tryz.func108, Tryz.ntmps108
    go_wp2_with fail
    refine C.out.mono ?_
    rintro e w2 ⟨rfl, d', s2, z2, p2, t2, x2⟩
    have S2 : Aside _ := s2
    have Z2 := Lib.hid z2
    have P2 := Lib.hid p2
    have X2 := Lib.hid x2
    have T2 := Lib.hid t2
    clear s2 z2 p2 x2 t2 C
    go_wp2_with fail
    go_end0
    have Z : d'.size = l.length := by rw [Z2.out, HNN.out]
    have S2' : SWK enc2 2 w g 0 d' w2 := S2.out
    refine ⟨rfl, ⟨d'.toList.map strip, ⟨d'.toList, ?_, ?_, rfl⟩, ?_⟩, ?_⟩
    · have h1 := P2.out.2.2
      have h2 : d'.extract 0 nn = d' := by rw [HNN.out, ← Z]; simp
      have h3 : (tagF 0 l).toArray.extract 0 nn = (tagF 0 l).toArray := by rw [HNN.out, ← E0.out]; simp
      rw [h2, h3] at h1
      simpa using h1
    · rw [List.pairwise_iff_getElem]
      intro i j hi hj hij
      have hj' : j < d'.size := by simpa using hj
      have h1 := X2.out i j (Nat.zero_le _) hij (by rw [HNN.out, ← Z]; exact hj')
      have h2 := T2.out i j hij hj'
      unfold at_ at h1 h2
      rw [getElem!_pos d' j hj', getElem!_pos d' i (by omega)] at h1 h2
      rw [show d'.toList[i] = d'[i]'(by omega) from by simp, show d'.toList[j] = d'[j] from by simp]
      unfold LT at *
      simp only [decide_eq_true_iff, decide_eq_false_iff_not] at *
      omega
    · intro _
      refine ⟨g, rfl, HLO.out, S2'.lt RR.out.hblk, fun i y hy j u hj => ?_⟩
      have hi : i < d'.size := by
        have := (List.getElem?_eq_some_iff.1 hy).1
        simpa using this
      obtain ⟨⟨k1, k2⟩, _⟩ := swk_cells S2' RR.out (by rw [Z, E0.out]) i hi
      have e : y = strip d'[i]! := by
        rw [getElem!_pos d' i hi]
        rw [List.getElem?_map, List.getElem?_eq_getElem (by simpa using hi)] at hy
        simpa using hy.symm
      subst e
      rcases j with _ | _ | j
      · simp only [strip, List.getElem?_cons_zero, Option.some.injEq] at hj
        subst hj
        simpa using k1
      · simp only [strip, Nat.zero_add, List.getElem?_cons_succ, List.getElem?_cons_zero, Option.some.injEq] at hj
        subst hj
        simpa using k2
      · simp at hj
    · obtain ⟨a1, a2, a3, a4, a5⟩ := swk_fr S2'
      exact ⟨a1, a2, a3, a4, fun k hk hne => a5 k hk (fun e => hne (by rw [e]))⟩
end Sb
end Go.Proofs.YthjflofcgdfekaaGreatDoor
