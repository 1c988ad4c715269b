/- Mathematics: the edits of a way are sound, and make of the one text the other one. -/
import Derived.Test.YthbmnnnlkgbieaaGreatDoorPR
import Derived.Test.YthbmnnnlkgbieaaGreatDoorME1
import Derived.Test.YthbmnnnlkgbieaaGreatDoorTH
import Derived.Test.YthbmnnnlkgbieaaGreatDoorMB1
import Derived.Deep.LoopGhost
import Derived.BigQuiet
import Derived.Test.YthbmnnnlkgbieaaGreatDoorMA1
namespace Go.Proofs.YthbmnnnlkgbieaaGreatDoor
open Go.RowKit

/-- The bytes of units. -/
def fl (l : List ByteArray) : List UInt8 := (l.map byt).flatten
theorem fl_append (a b : List ByteArray) : fl (a ++ b) = fl a ++ fl b := by simp [fl]
theorem fl_len (l : List ByteArray) : (fl l).length = szs l := by
  rw [fl, List.length_flatten, szs, List.map_map]
  congr 1
theorem cat_bytes_ (l : List ByteArray) : (cat l).data.toList = fl l := by
  unfold cat fl
  rw [join_flat]
theorem cat_size_ (l : List ByteArray) : (cat l).size = szs l := by
  rw [← fl_len, ← cat_bytes_, Array.length_toList]; rfl
theorem fl_take_drop (l : List ByteArray) (i : Nat) : fl l = fl (l.take i) ++ fl (l.drop i) := by
  rw [← fl_append, List.take_append_drop]
theorem drop_fl (l : List ByteArray) (i : Nat) : (fl l).drop (szs (l.take i)) = fl (l.drop i) := by
  rw [fl_take_drop l i, List.drop_append_of_le_length (by rw [fl_len]; exact Nat.le_refl _), ← fl_len, List.drop_length, List.nil_append]

/-- A text that is units. -/
def Is (s : ByteArray) (u : List ByteArray) : Prop := byt s = fl u
theorem Is.size {s : ByteArray} {u : List ByteArray} (h : Is s u) : s.size = szs u := by
  rw [← fl_len, ← h]; rfl
def Full1 (u : List ByteArray) : Prop := ∀ x ∈ u, x.size ≠ 0
theorem szs_lt {u : List ByteArray} (hu : Full1 u) {i j : Nat} (h : i < j) (hj : j ≤ u.length) : szs (u.take i) < szs (u.take j) := by
  have h1 : szs (u.take i) + u[i].size = szs (u.take (i + 1)) := (szs_take u i (by omega)).symm
  have h2 := hu u[i] (List.getElem_mem (by omega))
  have h3 : szs (u.take (i + 1)) ≤ szs (u.take j) := by
    have := szs_le (u.take j) (i + 1)
    rwa [List.take_take, Nat.min_eq_left (by omega)] at this
  omega
theorem szs_mono {u : List ByteArray} {i j : Nat} (h : i ≤ j) : szs (u.take i) ≤ szs (u.take j) := by
  have := szs_le (u.take j) i
  rwa [List.take_take, Nat.min_eq_left h] at this
theorem at_get {u v : List ByteArray} {i j : Nat} (h : Dl.At (bs u) (bs v) i j) : ∃ (hi : i < u.length) (hj : j < v.length), u[i] = v[j] := by
  obtain ⟨x, h1, h2⟩ := h
  obtain ⟨g1, e1⟩ := List.getElem?_eq_some_iff.1 h1
  obtain ⟨g2, e2⟩ := List.getElem?_eq_some_iff.1 h2
  rw [bs_len] at g1 g2
  refine ⟨g1, g2, byt_inj ?_⟩
  simp only [bs, List.getElem_map] at e1 e2
  rw [e1, e2]

/-- The edits of a way are sound. -/
theorem way_snd {u v : List ByteArray} (hu : Full1 u) (hv : Full1 v) {i j : Nat} {G : List Dl.Gap} (h : Dl.Way (bs u) (bs v) i j G) :
    Dl.Sep G → ∀ p : Option Int, (∀ q, p = some q → ∀ g, G.head? = some g → q < szs (u.take g.fo)) → sndGo (szs u) p (edsOf u v G) = 0 := by
  induction h with
  | done => intro _ p _; cases p <;> rfl
  | keep i j G h1 _ ih => exact ih
  | gap i j i' j' G h1 h2 h3 h4 h5 h6 hw ih =>
    intro hsep p hp
    rw [bs_len] at h3 h4
    show sndGo (szs u) p (edOf u v ⟨i, j, i', j'⟩ :: edsOf u v G) = 0
    have hm := szs_mono (u := u) h1
    have hm2 := szs_le u i'
    have hnb : ¬ ((edOf u v ⟨i, j, i', j'⟩).f < 0 ∨ (edOf u v ⟨i, j, i', j'⟩).t < (edOf u v ⟨i, j, i', j'⟩).f ∨ (szs u : Int) < (edOf u v ⟨i, j, i', j'⟩).t) := by
      show ¬ ((szs (u.take i) : Int) < 0 ∨ (szs (u.take i') : Int) < (szs (u.take i) : Int) ∨ (szs u : Int) < (szs (u.take i') : Int))
      omega
    have hne : ¬ ((edOf u v ⟨i, j, i', j'⟩).f = (edOf u v ⟨i, j, i', j'⟩).t ∧ (edOf u v ⟨i, j, i', j'⟩).x.size = 0) := by
      show ¬ ((szs (u.take i) : Int) = (szs (u.take i') : Int) ∧ (cat ((v.drop j).take (j' - j))).size = 0)
      rintro ⟨e1, e2⟩
      rcases h5 with h | h
      · have := szs_lt hu h h3; omega
      · rw [cat_size_] at e2
        have hlen : 0 < ((v.drop j).take (j' - j)).length := by simp; omega
        have := szs_lt (u := (v.drop j).take (j' - j)) (fun x hx => hv x (List.mem_of_mem_drop (List.mem_of_mem_take hx))) hlen (Nat.le_refl _)
        rw [List.take_length] at this
        omega
    have hnr : ¬ near p (edOf u v ⟨i, j, i', j'⟩).f = true := by
      cases p with
      | none => simp [near]
      | some q =>
        show ¬ decide ((szs (u.take i) : Int) ≤ q) = true
        have := hp q rfl ⟨i, j, i', j'⟩ rfl
        simp only [decide_eq_true_eq]
        show ¬ (szs (u.take i) : Int) ≤ q
        have h0 : (q : Int) < szs (u.take i) := this
        omega
    rw [sndGo, if_neg hnb, if_neg hne, if_neg hnr]
    refine ih hsep.tail _ (fun q hq g hg => ?_)
    injection hq with hq
    cases G with
    | nil => simp at hg
    | cons x r =>
      simp at hg
      subst hg
      have hx := (hw.out x (List.mem_cons_self))
      rw [bs_len, bs_len] at hx
      have := szs_lt hu (show i' < x.fo from hsep.1.1) (by omega : x.fo ≤ u.length)
      have hq' : (szs (u.take i') : Int) = q := hq
      omega

theorem take_split {l : List UInt8} {k m f : Nat} (h1 : k ≤ m) (h2 : m ≤ f) : (l.drop k).take (f - k) = (l.drop k).take (m - k) ++ (l.drop m).take (f - m) := by
  rw [show f - k = (m - k) + (f - m) by omega, List.take_add, List.drop_drop, show k + (m - k) = m by omega]
theorem pcs_skip (s : ByteArray) (k m : Nat) (L : List Ed) (hkm : k ≤ m) (hm : m ≤ s.size) (hL : ∀ e r, L = e :: r → (m : Int) ≤ e.f) :
    pbs s (pcs s.size k L) = (s.data.toList.drop k).take (m - k) ++ pbs s (pcs s.size m L) := by
  cases L with
  | nil =>
    rw [pcs, pcs, lvb s k s.size (by omega) (by omega), lvb s m s.size (by omega) (by omega)]
    simp only [Int.toNat_natCast]
    exact take_split hkm hm
  | cons e r =>
    have hf := hL e r rfl
    rw [pcs, pcs]
    simp only [pbs_append, List.append_assoc]
    rw [lvb s k e.f (by omega) (by omega), lvb s m e.f (by omega) hf]
    simp only [Int.toNat_natCast]
    rw [take_split hkm (by omega : m ≤ e.f.toNat), List.append_assoc]

/-- What stands from a place on, behind the edits of a way. -/
theorem way_pcs {s : ByteArray} {u v : List ByteArray} (hs : Is s u) (_hu : Full1 u) {i j : Nat} {G : List Dl.Gap} (h : Dl.Way (bs u) (bs v) i j G) :
    pbs s (pcs s.size (szs (u.take i)) (edsOf u v G)) = fl (v.drop j) := by
  have hss := hs.size
  have hsl : s.data.toList = fl u := hs
  induction h with
  | done =>
    rw [bs_len, bs_len, List.take_length, List.drop_length]
    exact end_nil s (szs u) (by omega)
  | keep i j G h1 hw ih =>
    obtain ⟨hi, hj, hij⟩ := at_get h1
    have hst := szs_take u i hi
    have hle := szs_le u (i + 1)
    have key : pbs s (pcs s.size (szs (u.take i)) (edsOf u v G)) = byt u[i] ++ pbs s (pcs s.size (szs (u.take (i + 1))) (edsOf u v G)) := by
      have hsk := pcs_skip s (szs (u.take i)) (szs (u.take (i + 1))) (edsOf u v G) (szs_mono (by omega)) (by omega) (fun e r he => by
        cases G with
        | nil => cases he
        | cons x r' =>
          injection he with he _
          subst he
          have := (hw.out x (List.mem_cons_self)).1
          show ((szs (u.take (i + 1)) : Nat) : Int) ≤ (szs (u.take x.fo) : Int)
          exact Int.ofNat_le.2 (szs_mono this))
      rw [hsk, hsl, drop_fl, hst, List.drop_eq_getElem_cons hi]
      congr 1
      show ((byt u[i]) ++ fl (u.drop (i + 1))).take _ = _
      rw [show szs (u.take i) + u[i].size - szs (u.take i) = (byt u[i]).length by show _ = u[i].data.toList.length; rw [Array.length_toList]; show _ = u[i].size; omega, List.take_left]
    have hv : fl (v.drop j) = byt v[j] ++ fl (v.drop (j + 1)) := by rw [List.drop_eq_getElem_cons hj]; rfl
    rw [key, ih, hij, hv]
  | gap i j i' j' G h1 h2 h3 h4 h5 h6 hw ih =>
    show pbs s (pcs s.size (szs (u.take i)) (edOf u v ⟨i, j, i', j'⟩ :: edsOf u v G)) = _
    rw [pcs_put s (szs (u.take i)) _ _ rfl]
    show (cat ((v.drop j).take (j' - j))).data.toList ++ pbs s (pcs s.size (szs (u.take i') : Int) (edsOf u v G)) = _
    rw [ih, cat_bytes_, ← fl_append]
    congr 1
    have : v.drop j' = (v.drop j).drop (j' - j) := by rw [List.drop_drop]; congr 1; omega
    rw [this, List.take_append_drop]

theorem bet_snd {u v : List ByteArray} (hu : Full1 u) (hv : Full1 v) {G : List Dl.Gap} (h : Ap u v G) : snd (edsOf u v (Dl.few G)) (szs u) = 0 := by
  unfold snd
  have := (Dl.few_len G).1
  rw [if_neg (by rw [edsOf, List.length_map]; omega)]
  exact way_snd hu hv h.way.few h.sep none (fun q hq => by cases hq)
theorem bet_apd {s t : ByteArray} {u v : List ByteArray} (hs : Is s u) (ht : Is t v) (hu : Full1 u) {G : List Dl.Gap} (h : Ap u v G) : apd s (edsOf u v (Dl.few G)) = t.data.toList := by
  have := way_pcs hs hu h.way.few
  unfold apd
  simp only [List.take_zero, List.drop_zero] at this
  show pbs s (pcs s.size ((0 : Nat) : Int) _) = _
  rw [show (0 : Nat) = szs [] from rfl, this]
  exact ht.symm
end Go.Proofs.YthbmnnnlkgbieaaGreatDoor
/- Contracts: the document's answer for package token: where what means nothing ends. -/
namespace Go.Proofs.YthbmnnnlkgbieaaGreatDoor
open Go.RowKit

theorem lead_cons (c : Bool) (b : UInt8) (t : List UInt8) : runM cmt lGo c (b :: t) = if lGo c b.toNat then 1 + runM cmt lGo (cmt c b.toNat) t else 0 := by
  rw [runM]
theorem lead_blank {b : UInt8} {t : List UInt8} (h : blkN b.toNat = true) (h2 : (b.toNat : Int) ≠ 35) : runM cmt lGo false (b :: t) = 1 + runM cmt lGo false t := by
  have hc : cmt false b.toNat = false := by unfold cmt; split <;> simp_all
  rw [lead_cons, hc]
  unfold lGo
  rw [hc, h]
  rfl
theorem lead_stop {b : UInt8} {t : List UInt8} (h : blkN b.toNat = false) (h2 : (b.toNat : Int) ≠ 35) : runM cmt lGo false (b :: t) = 0 := by
  have hc : cmt false b.toNat = false := by unfold cmt; split <;> simp_all
  rw [lead_cons]
  unfold lGo
  rw [hc, h]
  rfl
theorem lead_hash {b : UInt8} {t : List UInt8} (h : (b.toNat : Int) = 35) : runM cmt lGo false (b :: t) = runM cmt lGo true (b :: t) := by
  have h1 : cmt false b.toNat = true := by unfold cmt; rw [if_neg (by omega), if_pos h]
  have h2 : cmt true b.toNat = true := by unfold cmt; rw [if_neg (by omega), if_pos h]
  rw [lead_cons, lead_cons]
  unfold lGo
  rw [h1, h2]
theorem lead_in {b : UInt8} {t : List UInt8} (h : (b.toNat : Int) ≠ 10) : runM cmt lGo true (b :: t) = 1 + runM cmt lGo true t := by
  have h2 : cmt true b.toNat = true := by unfold cmt; rw [if_neg h]; split <;> rfl
  rw [lead_cons]
  unfold lGo
  rw [h2]
  rfl
theorem lead_lf {b : UInt8} {t : List UInt8} (h : (b.toNat : Int) = 10) : runM cmt lGo true (b :: t) = runM cmt lGo false (b :: t) := by
  have h1 : cmt false b.toNat = false := by unfold cmt; rw [if_pos h]
  have h2 : cmt true b.toNat = false := by unfold cmt; rw [if_pos h]
  rw [lead_cons, lead_cons]
  unfold lGo
  rw [h1, h2]
theorem lead_nil (c : Bool) : runM cmt lGo c [] = 0 := by rw [runM]

theorem tl_cons (s : ByteArray) (k : Nat) (h : k < s.size) : tl s k = s[k] :: tl s (k + 1) := by
  unfold tl
  rw [List.drop_eq_getElem_cons (by simpa using h)]
  rfl

set_option maxHeartbeats 4000000 in
set_option maxRecDepth 100000 in
theorem lead_any (s : ByteArray) (k : Nat) (w : World) (hs : s.size ≤ 100000) (hk : k ≤ s.size) : Calls Tryz.prog 33 #[.string s, .int .i64 k] w fun e w' => e = .returned (.int .i64 (atK s k)) ∧ Below w.heap.size w w' := by
  go_enter Tryz.func33, Tryz.ntmps33
  go_wp2_with fail
  go_loopg [1] (s.size + 1) (fun kx v wr => ∃ j : Nat, v = .int .i64 j ∧ j ≤ s.size ∧ s.size - j ≤ kx ∧ Hid (j + runM cmt lGo false (tl s j) = atK s k) ∧ Hid (Below w.heap.size w wr))
  case atStart => exact ⟨k, rfl, hk, by omega, rfl, Below.refl _ _⟩
  case round =>
    obtain ⟨j, rfl, hj, hkx, HA, HB⟩ := hrel
    by_cases hlt : j < s.size
    · have hc := tl_cons s j hlt
      by_cases hbl : blkN (s[j]'hlt).toNat = true
      · have h35 : ((s[j]'hlt).toNat : Int) ≠ 35 := by unfold blkN at hbl; simp only [decide_eq_true_eq] at hbl; omega
        have HN : Hid ((j + 1) + runM cmt lGo false (tl s (j + 1)) = atK s k) := by
          unfold Hid; rw [← HA.out, hc, lead_blank hbl h35]; omega
        have hb4 : ((s[j]'hlt).toNat : Int) = 32 ∨ ((s[j]'hlt).toNat : Int) = 9 ∨ ((s[j]'hlt).toNat : Int) = 10 ∨ ((s[j]'hlt).toNat : Int) = 13 := by
          unfold blkN at hbl; simpa using hbl
        clear hbl h35 hc
        rcases hb4 with hb | hb | hb | hb
        all_goals
          go_wp2_with fail
          go_roundg (s.size - (j + 1))
          case measure => omega
          case rel => exact ⟨j + 1, by go_num, by omega, by omega, HN.out, HB.out⟩
      · have hbl' : blkN (s[j]'hlt).toNat = false := by simpa using hbl
        have hnb : ¬ (((s[j]'hlt).toNat : Int) = 32) ∧ ¬ (((s[j]'hlt).toNat : Int) = 9) ∧ ¬ (((s[j]'hlt).toNat : Int) = 10) ∧ ¬ (((s[j]'hlt).toNat : Int) = 13) := by
          unfold blkN at hbl'; simp only [decide_eq_false_iff_not] at hbl'; omega
        obtain ⟨n1, n2, n3, n4⟩ := hnb
        have m1 : (((s[j]'hlt).toNat : Int) == 32) = false := by rw [beq_eq_false_iff_ne]; exact n1
        have m2 : (((s[j]'hlt).toNat : Int) == 9) = false := by rw [beq_eq_false_iff_ne]; exact n2
        have m3 : (((s[j]'hlt).toNat : Int) == 10) = false := by rw [beq_eq_false_iff_ne]; exact n3
        have m4 : (((s[j]'hlt).toNat : Int) == 13) = false := by rw [beq_eq_false_iff_ne]; exact n4
        by_cases h35 : ((s[j]'hlt).toNat : Int) = 35
        · have HI : Hid (j + runM cmt lGo true (tl s j) = atK s k) := by
            unfold Hid; rw [← HA.out, hc, lead_hash h35]
          clear hbl hbl' hc HA n1 n2 n3 n4
          go_wp2_with fail
          go_loopg [1] (s.size + 1) (fun kx2 v wr => ∃ i : Nat, v = .int .i64 i ∧ j ≤ i ∧ i ≤ s.size ∧ s.size - i ≤ kx2 ∧ (i = j ∨ j < i) ∧ Hid (i + runM cmt lGo true (tl s i) = atK s k) ∧ Hid (Below w.heap.size w wr))
          case atStart => exact ⟨j, rfl, Nat.le_refl _, by omega, by omega, .inl rfl, HI.out, HB.out⟩
          case round =>
            obtain ⟨i, rfl, hji, hi, hkx2, hor, HI2, HB2⟩ := hrel
            by_cases hlt2 : i < s.size
            · have hc2 := tl_cons s i hlt2
              by_cases h10 : ((s[i]'hlt2).toNat : Int) = 10
              · have hlti : j < i := by
                  rcases hor with h | h
                  · subst h; omega
                  · exact h
                have HN : Hid (i + runM cmt lGo false (tl s i) = atK s k) := by
                  unfold Hid; rw [← HI2.out, hc2, lead_lf h10]
                clear hc2 HI2 m1 m2 m3 m4 h35
                go_wp2_with fail
                go_roundg (s.size - i)
                case measure => omega
                case rel => exact ⟨i, rfl, by omega, by omega, HN.out, HB2.out⟩
              · have HN : Hid ((i + 1) + runM cmt lGo true (tl s (i + 1)) = atK s k) := by
                  unfold Hid; rw [← HI2.out, hc2, lead_in h10]; omega
                have m5 : (((s[i]'hlt2).toNat : Int) == 10) = false := by rw [beq_eq_false_iff_ne]; exact h10
                clear hc2 HI2 m1 m2 m3 m4 h35 h10
                go_wp2_with fail
                go_roundg (s.size - (i + 1))
                case measure => omega
                case rel => exact ⟨i + 1, by go_num, by omega, by omega, by omega, .inr (by omega), HN.out, HB2.out⟩
            · obtain rfl : i = s.size := by omega
              have HN : Hid (s.size + runM cmt lGo false (tl s s.size) = atK s k) := by
                unfold Hid; rw [← HI2.out, tl_end s _ (Nat.le_refl _), lead_nil, lead_nil]
              have hnl : ¬ (s.size : Int) < (s.size : Int) := by omega
              clear HI2 m1 m2 m3 m4 h35
              go_wp2_with fail
              go_roundg 0
              case measure => omega
              case rel => exact ⟨s.size, rfl, Nat.le_refl _, by omega, HN.out, HB2.out⟩
        · have HE : Hid (j = atK s k) := by unfold Hid; rw [← HA.out, hc, lead_stop hbl' h35]; rfl
          have m6 : (((s[j]'hlt).toNat : Int) == 35) = false := by rw [beq_eq_false_iff_ne]; exact h35
          clear hbl hbl' hc HA n1 n2 n3 n4 h35
          go_wp2
          go_ret
          exact ⟨by rw [← HE.out]; rfl, HB.out⟩
    · obtain rfl : j = s.size := by omega
      have HE : Hid (s.size = atK s k) := by unfold Hid; rw [← HA.out, tl_end s _ (Nat.le_refl _), lead_nil]; rfl
      have hnl : ¬ (s.size : Int) < (s.size : Int) := by omega
      clear HA
      go_wp2
      go_ret
      exact ⟨by rw [← HE.out]; rfl, HB.out⟩
end Go.Proofs.YthbmnnnlkgbieaaGreatDoor
/- Contracts: the document's answer for package token: one token, a word. -/
namespace Go.Proofs.YthbmnnnlkgbieaaGreatDoor
open Go.RowKit

def wordAt (s : ByteArray) (k : Nat) : Nat × Nat × Nat := if keyL ((tl s k).take (wLen (tl s k))) = true then (2, k + wLen (tl s k), 0) else if wLen (tl s k) > 40 then (0, 0, 26) else (1, k + wLen (tl s k), 0)
theorem w_go (s : ByteArray) (j : Nat) (h : j < s.size) (hb : wdN ((s[j]'h).toNat : Int) = true) : wLen (tl s j) = 1 + wLen (tl s (j + 1)) := by
  rw [tl_cons s j h]
  unfold wLen
  rw [runM_go (go := wGo) (by exact hb)]
  rfl
theorem w_stop (s : ByteArray) (j : Nat) (h : j < s.size) (hb : wdN ((s[j]'h).toNat : Int) = false) : wLen (tl s j) = 0 := by
  rw [tl_cons s j h]
  unfold wLen
  rw [runM_stop (go := wGo) (by exact hb)]
theorem w_end (s : ByteArray) : wLen (tl s s.size) = 0 := by
  rw [tl_end s _ (Nat.le_refl _)]; unfold wLen; rw [runM]
theorem ext_tl (s : ByteArray) (k n : Nat) : (s.extract k (k + n)).data.toList = (tl s k).take n := by
  unfold tl
  rw [ByteArray.data_extract, Array.toList_extract, List.extract_eq_take_drop, Nat.add_sub_cancel_left]

set_option maxHeartbeats 4000000 in
set_option maxRecDepth 100000 in
theorem one_word (s : ByteArray) (k : Nat) (w : World) (hs : s.size ≤ 100000) (hk : k < s.size) (hl : letN ((s[k]'hk).toNat : Int) = true) : Calls Tryz.prog 34 #[.string s, .int .i64 k] w fun e w' => e = tri (wordAt s k) ∧ Below w.heap.size w w' := by
  have H0 : Hid ((k + 1) + wLen (tl s (k + 1)) = k + wLen (tl s k)) := by
    unfold Hid; rw [w_go s k hk (by unfold wdN; rw [hl]; rfl)]; omega
  obtain ⟨m, hm⟩ : ∃ m, m = wLen (tl s k) := ⟨_, rfl⟩
  obtain ⟨x, hx⟩ : ∃ x, x = wordAt s k := ⟨_, rfl⟩
  rw [← hx]
  unfold wordAt at hx
  rw [← hm] at H0 hx
  rw [← ext_tl] at hx
  have HX := Lib.hid hx
  clear hx hm
  go_enter Tryz.func34, Tryz.ntmps34
  go_wp2_with fail
  refine (rletter_any _ _).mono ?_
  rintro e w1 ⟨rfl, rfl⟩
  go_wp2_with fail
  go_loopg [7] (s.size + 1) (fun kx v wr => ∃ j : Nat, v = .int .i64 j ∧ k < j ∧ j ≤ s.size ∧ s.size - j ≤ kx ∧ Hid (j + wLen (tl s j) = k + m) ∧ Hid (w = wr))
  case atStart => exact ⟨k + 1, by go_num, by omega, by omega, by omega, H0.out, rfl⟩
  case round =>
    obtain ⟨j, rfl, hkj, hj, hkx, HA, HB⟩ := hrel
    obtain rfl := HB.out
    by_cases hlt : j < s.size
    · cases h1 : letN ((s[j]'hlt).toNat : Int)
      · cases h2 : digN ((s[j]'hlt).toNat : Int)
        · have HE : Hid (j = k + m) := by
            unfold Hid; rw [← HA.out, w_stop s j hlt (by unfold wdN; rw [h1, h2]; rfl)]; rfl
          go_wp2_with fail
          refine (rletter_any _ _).mono ?_
          rintro e w1 ⟨rfl, rfl⟩
          go_wp2_with fail
          refine (rdigit_any _ _).mono ?_
          rintro e w1 ⟨rfl, rfl⟩
          go_wp2_with fail
          refine (rkey_any _ _).mono ?_
          rintro e w2 ⟨rfl, HB2⟩
          have HB3 := Lib.hid HB2
          clear HB2
          cases hkey : keyL (s.extract k j).data.toList
          · by_cases h40 : m > 40
            · have hz : ((j - k : Nat) : Int) > 40 := by have := HE.out; omega
              have HR : Hid (x = (0, 0, 26)) := by
                unfold Hid; rw [HX.out, ← HE.out, hkey, if_neg (by decide), if_pos h40]
              go_wp2_with fail
              refine (rletter_any _ _).mono ?_
              rintro e w3 ⟨rfl, rfl⟩
              go_wp2_with fail
              go_ret3
              exact ⟨tri_eq (a := 0) (b := 0) (c := 26) HR.out, HB3.out⟩
            · have hz : ¬ ((j - k : Nat) : Int) > 40 := by have := HE.out; omega
              have HR : Hid (x = (1, j, 0)) := by
                unfold Hid; rw [HX.out, ← HE.out, hkey, if_neg (by decide), if_neg h40]
              go_wp2_with fail
              refine (rletter_any _ _).mono ?_
              rintro e w3 ⟨rfl, rfl⟩
              go_wp2_with fail
              go_ret3
              exact ⟨tri_eq (a := 1) (b := j) (c := 0) HR.out, HB3.out⟩
          · have HR : Hid (x = (2, j, 0)) := by
              unfold Hid; rw [HX.out, ← HE.out, hkey, if_pos rfl]
            go_wp2_with fail
            go_ret3
            exact ⟨tri_eq (a := 2) (b := j) (c := 0) HR.out, HB3.out⟩
        · have HN : Hid ((j + 1) + wLen (tl s (j + 1)) = k + m) := by
            unfold Hid; rw [← HA.out, w_go s j hlt (by unfold wdN; rw [h1, h2]; rfl)]; omega
          go_wp2_with fail
          refine (rletter_any _ _).mono ?_
          rintro e w1 ⟨rfl, rfl⟩
          go_wp2_with fail
          refine (rdigit_any _ _).mono ?_
          rintro e w1 ⟨rfl, rfl⟩
          go_wp2_with fail
          go_roundg (s.size - (j + 1))
          case measure => omega
          case rel => exact ⟨j + 1, by go_num, by omega, by omega, by omega, HN.out, rfl⟩
      · have HN : Hid ((j + 1) + wLen (tl s (j + 1)) = k + m) := by
          unfold Hid; rw [← HA.out, w_go s j hlt (by unfold wdN; rw [h1]; rfl)]; omega
        go_wp2_with fail
        refine (rletter_any _ _).mono ?_
        rintro e w1 ⟨rfl, rfl⟩
        go_wp2_with fail
        go_roundg (s.size - (j + 1))
        case measure => omega
        case rel => exact ⟨j + 1, by go_num, by omega, by omega, by omega, HN.out, rfl⟩
    · obtain rfl : j = s.size := by omega
      have HE : Hid (s.size = k + m) := by unfold Hid; rw [← HA.out, w_end]; rfl
      have hnl : ¬ (s.size : Int) < (s.size : Int) := by omega
      go_wp2_with fail
      refine (rkey_any _ _).mono ?_
      rintro e w2 ⟨rfl, HB2⟩
      have HB3 := Lib.hid HB2
      clear HB2
      cases hkey : keyL (s.extract k s.size).data.toList
      · by_cases h40 : m > 40
        · have hz : ((s.size - k : Nat) : Int) > 40 := by have := HE.out; omega
          have HR : Hid (x = (0, 0, 26)) := by
            unfold Hid; rw [HX.out, ← HE.out, hkey, if_neg (by decide), if_pos h40]
          go_wp2_with fail
          refine (rletter_any _ _).mono ?_
          rintro e w3 ⟨rfl, rfl⟩
          go_wp2_with fail
          go_ret3
          exact ⟨tri_eq (a := 0) (b := 0) (c := 26) HR.out, HB3.out⟩
        · have hz : ¬ ((s.size - k : Nat) : Int) > 40 := by have := HE.out; omega
          have HR : Hid (x = (1, s.size, 0)) := by
            unfold Hid; rw [HX.out, ← HE.out, hkey, if_neg (by decide), if_neg h40]
          go_wp2_with fail
          refine (rletter_any _ _).mono ?_
          rintro e w3 ⟨rfl, rfl⟩
          go_wp2_with fail
          go_ret3
          exact ⟨tri_eq (a := 1) (b := s.size) (c := 0) HR.out, HB3.out⟩
      · have HR : Hid (x = (2, s.size, 0)) := by
          unfold Hid; rw [HX.out, ← HE.out, hkey, if_pos rfl]
        go_wp2_with fail
        go_ret3
        exact ⟨tri_eq (a := 2) (b := s.size) (c := 0) HR.out, HB3.out⟩
end Go.Proofs.YthbmnnnlkgbieaaGreatDoor
/- Contracts: the document's answer for package token: one token, a number. -/
namespace Go.Proofs.YthbmnnnlkgbieaaGreatDoor
open Go.RowKit

/-- One token that isn't a word: what is wrong, or a kind and an end. -/
def OneR (s : ByteArray) (k : Nat) (e : Ending) : Prop := (∃ er : Nat, er ≠ 0 ∧ e = tri (0, 0, er)) ∨ ∃ kd en : Nat, e = tri (kd, en, 0) ∧ 2 ≤ kd ∧ kd ≤ 5 ∧ k < en ∧ en ≤ s.size
theorem OneR.bad {s : ByteArray} {k : Nat} (er : Nat) (h : er ≠ 0) : OneR s k (.returned (.tuple #[.int .i64 0, .int .i64 0, .int .i64 (er : Int)])) := .inl ⟨er, h, rfl⟩
theorem OneR.ok {s : ByteArray} {k : Nat} (kd en : Nat) (h : 2 ≤ kd) (h2 : kd ≤ 5) (h3 : k < en) (h4 : en ≤ s.size) : OneR s k (.returned (.tuple #[.int .i64 (kd : Int), .int .i64 (en : Int), .int .i64 0])) := .inr ⟨kd, en, rfl, h, h2, h3, h4⟩

set_option maxHeartbeats 4000000 in
set_option maxRecDepth 100000 in
theorem one_num (s : ByteArray) (k : Nat) (w : World) (hs : s.size ≤ 100000) (hk : k < s.size) (hl : letN ((s[k]'hk).toNat : Int) = false) (hd : digN ((s[k]'hk).toNat : Int) = true) : Calls Tryz.prog 34 #[.string s, .int .i64 k] w fun e w' => OneR s k e ∧ Below w.heap.size w w' := by
  go_enter Tryz.func34, Tryz.ntmps34
  go_wp2_with fail
  refine (rletter_any _ _).mono ?_
  rintro e w1 ⟨rfl, rfl⟩
  go_wp2_with fail
  refine (rdigit_any _ _).mono ?_
  rintro e w1 ⟨rfl, rfl⟩
  go_wp2_with fail
  go_loopg [7] (s.size + 1) (fun kx v wr => ∃ j : Nat, v = .int .i64 j ∧ k < j ∧ j ≤ s.size ∧ s.size - j ≤ kx ∧ Hid (w = wr))
  case atStart => exact ⟨k + 1, by go_num, by omega, by omega, by omega, rfl⟩
  case round =>
    obtain ⟨j, rfl, hkj, hj, hkx, HB⟩ := hrel
    obtain rfl := HB.out
    by_cases hlt : j < s.size
    · cases h1 : letN ((s[j]'hlt).toNat : Int)
      · cases h2 : digN ((s[j]'hlt).toNat : Int)
        · go_wp2_with fail
          refine (rletter_any _ _).mono ?_
          rintro e w1 ⟨rfl, rfl⟩
          go_wp2_with fail
          refine (rdigit_any _ _).mono ?_
          rintro e w1 ⟨rfl, rfl⟩
          go_wp2_with fail
          obtain ⟨T, hT⟩ : ∃ T, T = s.extract k j := ⟨_, rfl⟩
          rw [← hT]
          have hTs : T.size ≤ 100000 := by rw [hT, ByteArray.size_extract]; omega
          clear hT
          refine (rkey_any _ _).mono ?_
          rintro e w2 ⟨rfl, HB2⟩
          have HB3 := Lib.hid HB2
          clear HB2
          cases hkey : keyL T.data.toList
          · go_wp2_with fail
            refine (rletter_any _ _).mono ?_
            rintro e w3 ⟨rfl, rfl⟩
            go_wp2_with fail
            go_loopg [9, 10] (T.size + 1) (fun kx v u wr => ∃ (n : Int) (i : Nat), v = .int .u64 n ∧ u = .int .i64 i ∧ i ≤ T.size ∧ T.size - i ≤ kx ∧ Hid (w2 = wr))
            case atStart => exact ⟨0, 0, rfl, rfl, by omega, by omega, rfl⟩
            case round =>
              obtain ⟨n, i, rfl, rfl, hi, hkx2, HW⟩ := hrel
              obtain rfl := HW.out
              by_cases hlt2 : i < T.size
              · cases h3 : digN ((T[i]'hlt2).toNat : Int)
                · go_wp2_with fail
                  refine (rdigit_any _ _).mono ?_
                  rintro e w1 ⟨rfl, rfl⟩
                  go_wp2_with fail
                  go_ret3
                  exact ⟨.bad 23 (by decide), HB3.out⟩
                · go_wp2_with fail
                  refine (rdigit_any _ _).mono ?_
                  rintro e w1 ⟨rfl, rfl⟩
                  go_wp2_with fail
                  · go_ret3
                    exact ⟨.bad 23 (by decide), HB3.out⟩
                  · go_roundg (T.size - (i + 1))
                    case measure => omega
                    case rel => exact ⟨_, i + 1, rfl, by go_num, by omega, by omega, rfl⟩
              · obtain rfl : i = T.size := by omega
                have hnl2 : ¬ (T.size : Int) < (T.size : Int) := by omega
                go_wp2_with fail
                go_ret3
                exact ⟨.ok 3 j (by decide) (by decide) (by omega) (by omega), HB3.out⟩
          · go_wp2_with fail
            go_ret3
            exact ⟨.ok 2 j (by decide) (by decide) (by omega) (by omega), HB3.out⟩
        · go_wp2_with fail
          refine (rletter_any _ _).mono ?_
          rintro e w1 ⟨rfl, rfl⟩
          go_wp2_with fail
          refine (rdigit_any _ _).mono ?_
          rintro e w1 ⟨rfl, rfl⟩
          go_wp2_with fail
          go_roundg (s.size - (j + 1))
          case measure => omega
          case rel => exact ⟨j + 1, by go_num, by omega, by omega, by omega, rfl⟩
      · go_wp2_with fail
        refine (rletter_any _ _).mono ?_
        rintro e w1 ⟨rfl, rfl⟩
        go_wp2_with fail
        go_roundg (s.size - (j + 1))
        case measure => omega
        case rel => exact ⟨j + 1, by go_num, by omega, by omega, by omega, rfl⟩
    · obtain rfl : j = s.size := by omega
      have hnl : ¬ (s.size : Int) < (s.size : Int) := by omega
      go_wp2_with fail
      obtain ⟨T, hT⟩ : ∃ T, T = s.extract k s.size := ⟨_, rfl⟩
      rw [← hT]
      have hTs : T.size ≤ 100000 := by rw [hT, ByteArray.size_extract]; omega
      clear hT
      refine (rkey_any _ _).mono ?_
      rintro e w2 ⟨rfl, HB2⟩
      have HB3 := Lib.hid HB2
      clear HB2
      cases hkey : keyL T.data.toList
      · go_wp2_with fail
        refine (rletter_any _ _).mono ?_
        rintro e w3 ⟨rfl, rfl⟩
        go_wp2_with fail
        go_loopg [9, 10] (T.size + 1) (fun kx v u wr => ∃ (n : Int) (i : Nat), v = .int .u64 n ∧ u = .int .i64 i ∧ i ≤ T.size ∧ T.size - i ≤ kx ∧ Hid (w2 = wr))
        case atStart => exact ⟨0, 0, rfl, rfl, by omega, by omega, rfl⟩
        case round =>
          obtain ⟨n, i, rfl, rfl, hi, hkx2, HW⟩ := hrel
          obtain rfl := HW.out
          by_cases hlt2 : i < T.size
          · cases h3 : digN ((T[i]'hlt2).toNat : Int)
            · go_wp2_with fail
              refine (rdigit_any _ _).mono ?_
              rintro e w1 ⟨rfl, rfl⟩
              go_wp2_with fail
              go_ret3
              exact ⟨.bad 23 (by decide), HB3.out⟩
            · go_wp2_with fail
              refine (rdigit_any _ _).mono ?_
              rintro e w1 ⟨rfl, rfl⟩
              go_wp2_with fail
              · go_ret3
                exact ⟨.bad 23 (by decide), HB3.out⟩
              · go_roundg (T.size - (i + 1))
                case measure => omega
                case rel => exact ⟨_, i + 1, rfl, by go_num, by omega, by omega, rfl⟩
          · obtain rfl : i = T.size := by omega
            have hnl2 : ¬ (T.size : Int) < (T.size : Int) := by omega
            go_wp2_with fail
            go_ret3
            exact ⟨.ok 3 s.size (by decide) (by decide) (by omega) (by omega), HB3.out⟩
      · go_wp2_with fail
        go_ret3
        exact ⟨.ok 2 s.size (by decide) (by decide) (by omega) (by omega), HB3.out⟩
end Go.Proofs.YthbmnnnlkgbieaaGreatDoor
/- Contracts: the document's answer for package token: one token, a text or a sign. -/
namespace Go.Proofs.YthbmnnnlkgbieaaGreatDoor
open Go.RowKit

theorem uq_or (T : ByteArray) : (∃ o : ByteArray, uq T.data.toList = .returned (.tuple #[.string o, .int .i64 0])) ∨ (∃ o : ByteArray, uq T.data.toList = .returned (.tuple #[.string o, .int .i64 22])) := by
  unfold uq
  split
  · exact .inl ⟨_, rfl⟩
  · exact .inr ⟨_, rfl⟩

set_option maxHeartbeats 4000000 in
set_option maxRecDepth 100000 in
theorem one_quote (s : ByteArray) (k : Nat) (w : World) (hs : s.size ≤ 99998) (hk : k < s.size) (_hl : letN ((s[k]'hk).toNat : Int) = false) (_hd : digN ((s[k]'hk).toNat : Int) = false) (hq : ((s[k]'hk).toNat : Int) = 34) : Calls Tryz.prog 34 #[.string s, .int .i64 k] w fun e w' => OneR s k e ∧ Below w.heap.size w w' := by
  have B0 := Lib.hid (Below.refl w.heap.size w)
  go_enter Tryz.func34, Tryz.ntmps34
  go_wp2_with fail
  refine (rletter_any _ _).mono ?_
  rintro e w1 ⟨rfl, rfl⟩
  go_wp2_with fail
  refine (rdigit_any _ _).mono ?_
  rintro e w1 ⟨rfl, rfl⟩
  go_wp2_with fail
  go_loopg [7] (s.size + 2) (fun kx v wr => ∃ j : Nat, v = .int .i64 j ∧ k < j ∧ j ≤ s.size + 1 ∧ s.size + 1 - j ≤ kx ∧ Hid (w = wr))
  case atStart => exact ⟨k + 1, by go_num, by omega, by omega, by omega, rfl⟩
  case round =>
    obtain ⟨j, rfl, hkj, hj, hkx, HB⟩ := hrel
    obtain rfl := HB.out
    by_cases hlt : j < s.size
    · by_cases h34 : ((s[j]'hlt).toNat : Int) = 34
      · have m10 : (((s[j]'hlt).toNat : Int) == 10) = false := by rw [beq_eq_false_iff_ne]; omega
        have hge : ¬ (j : Int) ≥ (s.size : Int) := by omega
        go_wp2_with fail
        obtain ⟨T, hT⟩ : ∃ T, T = s.extract k (j + 1) := ⟨_, rfl⟩
        rw [← hT]
        have hTs : T.size ≤ 100000 := by rw [hT, ByteArray.size_extract]; omega
        clear hT
        refine (runquote_any _ _ hTs).mono ?_
        rintro e w2 ⟨rfl, rfl⟩
        rcases uq_or T with ⟨o, ho⟩ | ⟨o, ho⟩
        · rw [ho]
          go_wp2_with fail
          go_ret3
          exact ⟨.ok 4 (j + 1) (by decide) (by decide) (by omega) (by omega), B0.out⟩
        · rw [ho]
          go_wp2_with fail
          go_ret3
          exact ⟨.bad 22 (by decide), B0.out⟩
      · have m34 : (((s[j]'hlt).toNat : Int) == 34) = false := by rw [beq_eq_false_iff_ne]; exact h34
        by_cases h10 : ((s[j]'hlt).toNat : Int) = 10
        · have hge : ¬ (j : Int) ≥ (s.size : Int) := by omega
          clear h34
          go_wp2_with fail
          go_ret3
          exact ⟨.bad 22 (by decide), B0.out⟩
        · have m10 : (((s[j]'hlt).toNat : Int) == 10) = false := by rw [beq_eq_false_iff_ne]; exact h10
          by_cases h92 : ((s[j]'hlt).toNat : Int) = 92
          · clear h34 h10
            go_wp2_with fail
            go_roundg (s.size + 1 - (j + 2))
            case measure => omega
            case rel => exact ⟨j + 2, by go_num, by omega, by omega, by omega, rfl⟩
          · have m92 : (((s[j]'hlt).toNat : Int) == 92) = false := by rw [beq_eq_false_iff_ne]; exact h92
            have p34 : (((s[j]'hlt).toNat : Int) != 34) = true := by rw [bne_iff_ne]; exact h34
            have p10 : (((s[j]'hlt).toNat : Int) != 10) = true := by rw [bne_iff_ne]; exact h10
            clear h34 h10 h92
            go_wp2_with fail
            go_roundg (s.size + 1 - (j + 1))
            case measure => omega
            case rel => exact ⟨j + 1, by go_num, by omega, by omega, by omega, rfl⟩
    · have hnl : ¬ (j : Int) < (s.size : Int) := by omega
      have hge : (j : Int) ≥ (s.size : Int) := by omega
      go_wp2_with fail
      go_ret3
      exact ⟨.bad 22 (by decide), B0.out⟩
end Go.Proofs.YthbmnnnlkgbieaaGreatDoor
/- Contracts: the document's answer for package token: one token, a sign; one token, whatever it is. -/
namespace Go.Proofs.YthbmnnnlkgbieaaGreatDoor
open Go.RowKit

set_option maxHeartbeats 4000000 in
set_option maxRecDepth 100000 in
theorem one_sign (s : ByteArray) (k : Nat) (w : World) (hs : s.size ≤ 99998) (hk : k < s.size) (hl : letN ((s[k]'hk).toNat : Int) = false) (hd : digN ((s[k]'hk).toNat : Int) = false) (hq : (((s[k]'hk).toNat : Int) == 34) = false) : Calls Tryz.prog 34 #[.string s, .int .i64 k] w fun e w' => OneR s k e ∧ Below w.heap.size w w' := by
  have B0 := Lib.hid (Below.refl w.heap.size w)
  by_cases h3 : ∃ h : k + 1 < s.size, ((s[k]'hk).toNat : Int) = 61 ∧ ((s[k + 1]'h).toNat : Int) = 61
  · obtain ⟨hlt, ha, hb⟩ := h3
    go_enter Tryz.func34, Tryz.ntmps34
    go_wp2_with fail
    refine (rletter_any _ _).mono ?_
    rintro e w1 ⟨rfl, rfl⟩
    go_wp2_with fail
    refine (rdigit_any _ _).mono ?_
    rintro e w1 ⟨rfl, rfl⟩
    go_wp2_with fail
    go_ret3
    exact ⟨.ok 5 (k + 2) (by decide) (by decide) (by omega) (by omega), B0.out⟩
  · have h4 : (¬ ((k : Int) + 1 < (s.size : Int))) ∨ (((k : Int) + 1 < (s.size : Int)) ∧ (((s[k]'hk).toNat : Int) == 61) = false) ∨ (∃ h : k + 1 < s.size, ((s[k]'hk).toNat : Int) = 61 ∧ (((s[k + 1]'h).toNat : Int) == 61) = false) := by
      by_cases hlt : k + 1 < s.size
      · by_cases ha : ((s[k]'hk).toNat : Int) = 61
        · refine .inr (.inr ⟨hlt, ha, ?_⟩)
          rw [beq_eq_false_iff_ne]
          intro hb
          exact h3 ⟨hlt, ha, hb⟩
        · refine .inr (.inl ⟨by omega, ?_⟩)
          rw [beq_eq_false_iff_ne]; exact ha
      · exact .inl (by omega)
    clear h3
    rcases h4 with h4 | ⟨h4, h5⟩ | ⟨h4, h5, h6⟩
    all_goals
      go_enter Tryz.func34, Tryz.ntmps34
      go_wp2_with fail
      refine (rletter_any _ _).mono ?_
      rintro e w1 ⟨rfl, rfl⟩
      go_wp2_with fail
      refine (rdigit_any _ _).mono ?_
      rintro e w1 ⟨rfl, rfl⟩
      go_wp2_with fail
      obtain ⟨A, hA⟩ : ∃ A : ByteArray, A = { data := #[40, 41, 123, 125, 44, 59, 58, 46, 61, 43, 45, 42, 60] } := ⟨_, rfl⟩
      rw [← hA]
      have hAs : A.size ≤ 100000 := by rw [hA]; decide
      clear hA
      go_loopg [15] (A.size + 1) (fun kx u wr => ∃ (i : Nat), u = .int .i64 i ∧ i ≤ A.size ∧ A.size - i ≤ kx ∧ Hid (Below w.heap.size w wr))
      case atStart => exact ⟨0, rfl, by omega, by omega, B0.out⟩
      case round =>
        obtain ⟨i, rfl, hi, hkx2, HW⟩ := hrel
        by_cases hlt2 : i < A.size
        · cases hx : (((A[i]'hlt2).toNat : Int) == ((s[k]'hk).toNat : Int))
          · go_wp2_with fail
            go_quiet (fail)
            go_wp2_with fail
            go_roundg (A.size - (i + 1))
            case measure => omega
            case rel => exact ⟨i + 1, by go_num, by omega, by omega, below_drewN HW.out _⟩
          · go_wp2_with fail
            go_quiet (fail)
            go_wp2_with fail
            go_ret3
            exact ⟨.ok 5 (k + 1) (by decide) (by decide) (by omega) (by omega), below_drewN HW.out _⟩
        · obtain rfl : i = A.size := by omega
          have hnl2 : ¬ (A.size : Int) < (A.size : Int) := by omega
          go_wp2_with fail
          go_ret3
          exact ⟨.bad 21 (by decide), HW.out⟩

/-- One token of a text, at a place inside it. -/
def OneP (s : ByteArray) (k : Nat) (e : Ending) : Prop := if letN (gb s k : Int) = true then e = tri (wordAt s k) else OneR s k e
theorem one_any (s : ByteArray) (k : Nat) (w : World) (hs : s.size ≤ 99998) (hk : k < s.size) : Calls Tryz.prog 34 #[.string s, .int .i64 k] w fun e w' => OneP s k e ∧ Below w.heap.size w w' := by
  have hg : ((s[k]'hk).toNat : Int) = (gb s k : Int) := by rw [gb_of s k hk]
  unfold OneP
  rw [← hg]
  cases h1 : letN ((s[k]'hk).toNat : Int)
  · simp only [Bool.false_eq_true, ite_false]
    cases h2 : digN ((s[k]'hk).toNat : Int)
    · by_cases h3 : ((s[k]'hk).toNat : Int) = 34
      · exact one_quote s k w hs hk h1 h2 h3
      · exact one_sign s k w hs hk h1 h2 (by rw [beq_eq_false_iff_ne]; exact h3)
    · exact one_num s k w (by omega) hk h1 h2
  · simp only [ite_true]
    exact one_word s k w (by omega) hk h1
end Go.Proofs.YthbmnnnlkgbieaaGreatDoor
/- Contracts: the document's answer for package token: a text's tokens. -/
namespace Go.Proofs.YthbmnnnlkgbieaaGreatDoor
open Go.RowKit

/-- A token that begins at a place, ends at another, and has this kind. -/
def KindOk (s : ByteArray) (a kd en : Nat) : Prop := 1 ≤ kd ∧ kd ≤ 5 ∧ a < en ∧ en ≤ s.size ∧ (letN (gb s a : Int) = true → en = a + wLen (tl s a) ∧ kd ≤ 2 ∧ (kd = 1 ↔ keyL ((tl s a).take (wLen (tl s a))) = false)) ∧ (letN (gb s a : Int) = false → 2 ≤ kd)
theorem wLen_tl_le (s : ByteArray) (k : Nat) (h : k ≤ s.size) : k + wLen (tl s k) ≤ s.size := by
  have := wLen_le (tl s k)
  rw [tl_len] at this
  omega
/-- What one answers: what is wrong, or a kind and an end. -/
theorem OneP.out {s : ByteArray} {k : Nat} {e : Ending} (hk : k < s.size) (h : OneP s k e) : (∃ er : Nat, er ≠ 0 ∧ e = .returned (.tuple #[.int .i64 0, .int .i64 0, .int .i64 er])) ∨ ∃ kd en : Nat, e = .returned (.tuple #[.int .i64 kd, .int .i64 en, .int .i64 0]) ∧ KindOk s k kd en := by
  unfold OneP at h
  by_cases hl : letN (gb s k : Int) = true
  · rw [if_pos hl] at h
    have hw := wLen_tl_le s k (by omega)
    have hp : 1 ≤ wLen (tl s k) := by
      have hb : letN ((s[k]'hk).toNat : Int) = true := by rw [gb_of s k hk]; exact hl
      rw [tl_cons s k hk]
      exact wLen_pos (by unfold wdN; rw [hb]; rfl)
    unfold wordAt at h
    split at h
    · rename_i h1
      refine .inr ⟨2, k + wLen (tl s k), h, by omega, by omega, by omega, hw, fun _ => ⟨rfl, by omega, by simp [h1]⟩, fun hf => ?_⟩
      rw [hl] at hf; cases hf
    · rename_i h1
      split at h
      · exact .inl ⟨26, by decide, h⟩
      · refine .inr ⟨1, k + wLen (tl s k), h, by omega, by omega, by omega, hw, fun _ => ⟨rfl, by omega, by simp [h1]⟩, fun hf => ?_⟩
        rw [hl] at hf; cases hf
  · rw [if_neg hl] at h
    rcases h with ⟨er, h1, h2⟩ | ⟨kd, en, h1, h2, h3, h4, h5⟩
    · exact .inl ⟨er, h1, h2⟩
    · exact .inr ⟨kd, en, h1, by omega, h3, h4, h5, fun ht => absurd ht hl, fun _ => h2⟩

/-- The token that stands from a place on, and where the next begins. -/
def Step (s : ByteArray) (k : Nat) (t : Tok) (k' : Nat) : Prop := t.at_ = atK s k ∧ atK s k < s.size ∧ t.lead = s.extract k (atK s k) ∧ t.text = s.extract (atK s k) k' ∧ KindOk s (atK s k) t.kind k'
inductive Up (s : ByteArray) : List Tok → Nat → Prop
  | nil : Up s [] 0
  | snoc {D : List Tok} {k k' : Nat} {t : Tok} : Up s D k → Step s k t k' → Up s (D ++ [t]) k'
/-- The last token. -/
def Fin_ (s : ByteArray) (k : Nat) (t : Tok) : Prop := atK s k = s.size ∧ t = ⟨0, s.size, s.extract k s.size, s.extract s.size s.size⟩
def RLex (s : ByteArray) (l : List Tok) : Prop := ∃ D k t, Up s D k ∧ Fin_ s k t ∧ l = D ++ [t]
/-- What the document's Lex answers. -/
def RLexed (s : ByteArray) (w : World) (e : Ending) (w' : World) : Prop :=
  Below w.heap.size w w' ∧ ((∃ (er : Nat) (a : Int), er ≠ 0 ∧ e = .returned (.tuple #[.slice none 0 0, .int .i64 er, .int .i64 a])) ∨
    ∃ l v, RLex s l ∧ e = .returned (.tuple #[v, .int .i64 0, .int .i64 0]) ∧ w'.ownsRow w.heap.size 47 4 v l.length (cellsL l) ∧ l.length ≤ 4000)

theorem below_put {w w' : World} {g : Nat} (h : Below w.heap.size w w') (hg : w.heap.size ≤ g) (i : Nat) (u : Value) : Below w.heap.size w (w'.setCell ⟨g, i, none⟩ u) := h.setCell hg u

set_option maxHeartbeats 4000000 in
set_option maxRecDepth 100000 in
theorem rlex_any (s : ByteArray) (hs : s.size ≤ 16384) (hg : badAt s.data.toList = none) (w : World) :
    Calls Tryz.prog 17 #[.string s] w (RLexed s w) := by
  obtain ⟨i0, hi, hz0, hz1, hz2⟩ := info_parts info47
  have c := rbad_any s w (by omega)
  rw [badI_none hg] at c
  have hsz : ¬ (s.size : Int) > 16384 := by omega
  have C := Lib.hid c
  have B0 := Lib.hid (Below.refl w.heap.size w)
  clear c hg
  go_enter Tryz.func17, Tryz.ntmps17
  go_wp2_with fail
  refine C.out.mono ?_
  rintro e w1 ⟨rfl, rfl⟩
  go_wp2_with fail
  go_loopg [6, 7] (s.size + 1) (fun kx v x wr => ∃ (k n : Nat) (D : List Tok) (u : Value), u = v ∧ x = .int .i64 k ∧ k ≤ s.size ∧ s.size + 1 - k ≤ kx ∧ n ≤ 4000 ∧ Hid (n = D.length) ∧ Hid (Up s D k) ∧ wr.ownsRow w.heap.size 47 4 u n (cellsL D) ∧ Below w.heap.size w wr)
  case atStart => exact ⟨0, 0, [], _, rfl, rfl, by omega, by omega, by omega, rfl, .nil, World.ownsRow_nil _ _ _ _, B0.out⟩
  case round =>
    obtain ⟨k, n, D, u, rfl, rfl, hk, hkx, hn, HD, HU, hown, hnx⟩ := hrel
    go_wp2_with fail
    refine (lead_any s k wr (by omega) hk).mono ?_
    rintro e w2 ⟨rfl, hb2⟩
    obtain ⟨ha1, ha2⟩ := atK_le s k hk
    have hown2 := own_below hown hb2
    have hnx2 := step_below hnx hb2
    have hltu := hown2.lt
    obtain ⟨A, cap, rfl⟩ := own_slice hown2
    obtain ⟨a, haa⟩ : ∃ a, a = atK s k := ⟨_, rfl⟩
    rw [← haa] at ha1 ha2
    rw [← haa]
    have hgt : ∀ h, (Value.slice A n cap).ownBlock = some h → h < w2.heap.size := fun h e => (hltu h e).2
    have HA := Lib.hid haa
    clear haa
    obtain ⟨ld, hld⟩ : ∃ ld, ld = s.extract k a := ⟨_, rfl⟩
    have R0 := Lib.hid (RowB.new w2 47 #[.int .i64 0, .int .i64 a, .string ld, .string ⟨#[]⟩])
    have B2 := Lib.hid (hnx2.alloc hnx2.size (.cells #[.int .i64 0, .int .i64 a, .string ld, .string ⟨#[]⟩] 47))
    have O2 := Lib.hid (hown2.alloc (.cells #[.int .i64 0, .int .i64 a, .string ld, .string ⟨#[]⟩] 47))
    have HL := Lib.hid hld
    clear hown hown2 hb2 hltu hld
    have hal : a ≤ s.size := by omega
    by_cases hlt : a < s.size
    · go_wp2_with fail
      rw [← HL.out]
      obtain ⟨W, hW⟩ : ∃ W, W = w2.alloc (.cells #[.int .i64 0, .int .i64 a, .string ld, .string ⟨#[]⟩] 47) := ⟨_, rfl⟩
      rw [← hW] at R0 B2 O2
      rw [← hW]
      refine (one_any s a _ (by omega) hlt).mono ?_
      rintro e w3 ⟨ho, hb3⟩
      have R3 := R0.out.below hb3 R0.out.lt
      have O3 := own_below O2.out hb3
      have B3 := step_below B2.out hb3
      rcases ho.out hlt with ⟨er, her, rfl⟩ | ⟨kd, en, rfl, hko⟩
      · have HB3 := Lib.hid B3
        have z1 : ((er : Int) != 0) = true := by rw [bne_iff_ne]; omega
        have z2 : ((er : Int) == 0) = false := by rw [beq_eq_false_iff_ne]; omega
        clear R3 O3 B3 hb3 hW
        go_wp2_with fail
        go_ret3
        exact ⟨HB3.out, .inl ⟨er, a, her, rfl⟩⟩
      · obtain ⟨q0, q1, q2, q3⟩ : w3.cell? ⟨w2.heap.size, 0, none⟩ = some (.int .i64 0) ∧ w3.cell? ⟨w2.heap.size, 1, none⟩ = some (.int .i64 a) ∧ w3.cell? ⟨w2.heap.size, 2, none⟩ = some (.string ld) ∧ w3.cell? ⟨w2.heap.size, 3, none⟩ = some (.string ⟨#[]⟩) := ⟨R3.cell 0, R3.cell 1, R3.cell 2, R3.cell 3⟩
        obtain ⟨f0, f3⟩ : w3.frozen? ⟨w2.heap.size, 0, none⟩ = false ∧ w3.frozen? ⟨w2.heap.size, 3, none⟩ = false := ⟨R3.thaw 0, R3.thaw 3⟩
        obtain ⟨hk1, hk5, hae, hes, HK1, HK2⟩ := hko
        have HR3 := Lib.hid R3
        have HO3 := Lib.hid O3
        have HB3 := Lib.hid B3
        have HKA := Lib.hid HK1
        have HKB := Lib.hid HK2
        clear R3 O3 B3 hb3 hW HK1 HK2
        by_cases hmany : n = 4000
        · have z1 : (n : Int) ≥ 4000 := by omega
          go_wp2_with fail
          go_ret3
          exact ⟨below_put HB3.out hnx2.size 0 _, .inl ⟨5, a, by decide, rfl⟩⟩
        · have z1 : ¬ (n : Int) ≥ 4000 := by omega
          obtain ⟨tx, htx⟩ : ∃ tx, tx = s.extract a en := ⟨_, rfl⟩
          have hne : (Value.slice A n cap).ownBlock ≠ some w2.heap.size := fun h => by have := hgt _ h; omega
          obtain ⟨X, hX⟩ : ∃ X, X = (w3.setCell ⟨w2.heap.size, 0, none⟩ (.int .i64 kd)).setCell ⟨w2.heap.size, 3, none⟩ (.string tx) := ⟨_, rfl⟩
          have OX : X.ownsRow w.heap.size 47 4 (.slice A n cap) n (cellsL D) := by
            rw [hX]
            exact ownsRow_setCell_other (ownsRow_setCell_other HO3.out (a := ⟨w2.heap.size, 0, none⟩) hne _) (a := ⟨w2.heap.size, 3, none⟩) hne _
          have RX : RowB X w2.heap.size 47 #[.int .i64 kd, .int .i64 a, .string ld, .string tx] := by
            rw [hX]
            exact (HR3.out.put 0 _).put 3 _
          have BX : Below w.heap.size w X := by rw [hX]; exact below_put (below_put HB3.out hnx2.size 0 _) hnx2.size 3 _
          have hXs : X.heap.size = w3.heap.size := by rw [hX]; simp [World.setCell]
          have HXs := Lib.hid hXs
          have BX2 := Lib.hid (BX.alloc BX.size (.cells #[.int .i64 kd, .int .i64 a, .string ld, .string tx] 47))
          have RX2 := Lib.hid (RX.alloc (.cells #[.int .i64 kd, .int .i64 a, .string ld, .string tx] 47))
          have OX2 := Lib.hid (OX.alloc (.cells #[.int .i64 kd, .int .i64 a, .string ld, .string tx] 47))
          have C1 := Lib.hid (cells_tok X (.int .i64 kd) (.int .i64 a) (.string ld) (.string tx))
          have b5 : Hid (w.heap.size ≤ (X.alloc (.cells #[.int .i64 kd, .int .i64 a, .string ld, .string tx] 47)).heap.size) := BX2.out.size
          have b3 : n + 1 ≤ maxLen := by unfold maxLen; omega
          have b4 : (n + 1) * 48 ≤ 140737488355328 := by omega
          have HTX := Lib.hid htx
          have HGT := Lib.hid hgt
          have HNM := Lib.hid hmany
          rw [hX, htx] at OX2 C1 BX2 RX2 b5
          clear OX RX BX hXs hX htx hgt hne HR3 HO3 HB3 hmany
          go_wp2_with (at_builtin; refine wpList_append_own _ rfl (.tmp 61) (.tmp 63) 22 rfl w.heap.size 47 i0 (.agg #[.int .i64 0, .int .i64 0, .string ⟨#[]⟩, .string ⟨#[]⟩]) 4 48 Tryz.underlying22 hi hz0 hz1 hz2 rfl (by decide) _ _ _ rfl OX2.out ⟨w3.heap.size, 0, none⟩ 1 1 [.int .i64 kd, .int .i64 a, .string ld, .string (s.extract a en)] rfl rfl (by simpa [World.setCell] using C1.out) (one_tok _ _ _ _) b3 b4 b5.out ?_)
          intro v' w4 hown' hgrow _
          have R4 := Lib.hid (RX2.out.grown hgrow (fun h => by have := HGT.out _ h.symm; omega))
          have B4 := Lib.hid (BX2.out.grown hgrow b5.out (fun j hj => (OX2.out.lt j hj).1))
          have O4 : Hid (w4.ownsRow w.heap.size 47 4 v' (n + 1) (cellsL (D ++ [⟨kd, a, ld, s.extract a en⟩]))) := by
            unfold Hid; rw [cellsL_snoc]; exact hown'
          have z2 : ((kd : Int) == 0) = false := by rw [beq_eq_false_iff_ne]; omega
          have q0' : w4.cell? ⟨w2.heap.size, 0, none⟩ = some (.int .i64 kd) := R4.out.cell 0
          have HU2 : Hid (Up s (D ++ [⟨kd, a, ld, s.extract a en⟩]) en) :=
            HU.out.snoc ⟨HA.out, by rw [← HA.out]; exact hlt, by rw [← HA.out]; exact HL.out, by rw [← HA.out], by rw [← HA.out]; exact ⟨hk1, hk5, hae, hes, HKA.out, HKB.out⟩⟩
          have hn1 : n + 1 ≤ 4000 := by have := HNM.out; omega
          clear hown' hgrow b3 b4 b5 C1 OX2 BX2 RX2 q0 q1 q2 q3 f0 f3
          go_wp2_with fail
          go_roundg (s.size + 1 - en)
          case measure => omega
          case rel => exact ⟨en, n + 1, _, _, rfl, rfl, hes, by omega, hn1, by show _ = _; rw [List.length_append, ← HD.out]; rfl, HU2.out, O4.out, B4.out⟩
    · obtain rfl : a = s.size := by omega
      have hnl : ¬ (s.size : Int) < (s.size : Int) := by omega
      obtain ⟨w3, hW⟩ : ∃ W, W = w2.alloc (.cells #[.int .i64 0, .int .i64 s.size, .string ld, .string ⟨#[]⟩] 47) := ⟨_, rfl⟩
      have HW := Lib.hid hW
      rw [← hW] at R0 B2 O2
      clear hW
      obtain ⟨q0, q1, q2, q3⟩ : w3.cell? ⟨w2.heap.size, 0, none⟩ = some (.int .i64 0) ∧ w3.cell? ⟨w2.heap.size, 1, none⟩ = some (.int .i64 s.size) ∧ w3.cell? ⟨w2.heap.size, 2, none⟩ = some (.string ld) ∧ w3.cell? ⟨w2.heap.size, 3, none⟩ = some (.string ⟨#[]⟩) := ⟨R0.out.cell 0, R0.out.cell 1, R0.out.cell 2, R0.out.cell 3⟩
      obtain ⟨f0, f3⟩ : w3.frozen? ⟨w2.heap.size, 0, none⟩ = false ∧ w3.frozen? ⟨w2.heap.size, 3, none⟩ = false := ⟨R0.out.thaw 0, R0.out.thaw 3⟩
      by_cases hmany : n = 4000
      · have z1 : (n : Int) ≥ 4000 := by omega
        have B2' := B2.out
        rw [HW.out] at B2'
        have HB2 := Lib.hid B2'
        clear B2'
        go_wp2_with fail
        go_ret3
        exact ⟨by first | exact HB2.out | (rw [← HL.out]; exact HB2.out), .inl ⟨5, s.size, by decide, rfl⟩⟩
      · have z1 : ¬ (n : Int) ≥ 4000 := by omega
        have OX : (w2.alloc (.cells #[.int .i64 0, .int .i64 s.size, .string (s.extract k s.size), .string ByteArray.empty] 47)).ownsRow w.heap.size 47 4 (.slice A n cap) n (cellsL D) := by
          have := O2.out; rw [HW.out, HL.out] at this; exact this
        have RX : RowB (w2.alloc (.cells #[.int .i64 0, .int .i64 s.size, .string (s.extract k s.size), .string ByteArray.empty] 47)) w2.heap.size 47 #[.int .i64 0, .int .i64 s.size, .string (s.extract k s.size), .string ByteArray.empty] := RowB.new _ _ _
        have BX : Below w.heap.size w (w2.alloc (.cells #[.int .i64 0, .int .i64 s.size, .string (s.extract k s.size), .string ByteArray.empty] 47)) := by
          have := B2.out; rw [HW.out, HL.out] at this; exact this
        have BX2 := Lib.hid (BX.alloc BX.size (.cells #[.int .i64 0, .int .i64 s.size, .string (s.extract k s.size), .string ByteArray.empty] 47))
        have RX2 := Lib.hid (RX.alloc (.cells #[.int .i64 0, .int .i64 s.size, .string (s.extract k s.size), .string ByteArray.empty] 47))
        have OX2 := Lib.hid (OX.alloc (.cells #[.int .i64 0, .int .i64 s.size, .string (s.extract k s.size), .string ByteArray.empty] 47))
        have C1 := Lib.hid (cells_tok (w2.alloc (.cells #[.int .i64 0, .int .i64 s.size, .string (s.extract k s.size), .string ByteArray.empty] 47)) (.int .i64 0) (.int .i64 s.size) (.string (s.extract k s.size)) (.string ByteArray.empty))
        have b5 : Hid (w.heap.size ≤ ((w2.alloc (.cells #[.int .i64 0, .int .i64 s.size, .string (s.extract k s.size), .string ByteArray.empty] 47)).alloc (.cells #[.int .i64 0, .int .i64 s.size, .string (s.extract k s.size), .string ByteArray.empty] 47)).heap.size) := BX2.out.size
        have b3 : n + 1 ≤ maxLen := by unfold maxLen; omega
        have b4 : (n + 1) * 48 ≤ 140737488355328 := by omega
        have HGT := Lib.hid hgt
        have HNM := Lib.hid hmany
        have HE := Lib.hid (show s.extract s.size s.size = ByteArray.empty by simp)
        clear OX RX BX hgt hmany q0 q1 q2 q3 f0 f3 R0 B2 O2 HW
        clear w3
        go_wp2_with (at_builtin; refine wpList_append_own _ rfl (.tmp 61) (.tmp 63) 22 rfl w.heap.size 47 i0 (.agg #[.int .i64 0, .int .i64 0, .string ⟨#[]⟩, .string ⟨#[]⟩]) 4 48 Tryz.underlying22 hi hz0 hz1 hz2 rfl (by decide) _ _ _ rfl OX2.out ⟨w2.heap.size + 1, 0, none⟩ 1 1 [.int .i64 0, .int .i64 s.size, .string (s.extract k s.size), .string ByteArray.empty] rfl rfl (by simpa using C1.out) (one_tok _ _ _ _) b3 b4 b5.out ?_)
        intro v' w4 hown' hgrow _
        have R4 := Lib.hid (RX2.out.grown hgrow (fun h => by have := HGT.out _ h.symm; omega))
        have B4 := Lib.hid (BX2.out.grown hgrow b5.out (fun j hj => (OX2.out.lt j hj).1))
        have O4 : Hid (w4.ownsRow w.heap.size 47 4 v' (n + 1) (cellsL (D ++ [⟨0, s.size, s.extract k s.size, s.extract s.size s.size⟩]))) := by
          unfold Hid; rw [cellsL_snoc, HE.out]; exact hown'
        have q0' : w4.cell? ⟨w2.heap.size, 0, none⟩ = some (.int .i64 0) := R4.out.cell 0
        have HF : Hid (RLex s (D ++ [⟨0, s.size, s.extract k s.size, s.extract s.size s.size⟩])) := ⟨D, k, _, HU.out, ⟨HA.out.symm, rfl⟩, rfl⟩
        have hn1 : n + 1 ≤ 4000 := by have := HNM.out; omega
        clear hown' hgrow b3 b4 b5 C1 OX2 BX2 RX2
        go_wp2_with fail
        go_ret3
        exact ⟨B4.out, .inr ⟨_, v', HF.out, rfl, by rw [List.length_append, ← HD.out]; exact O4.out, by rw [List.length_append, ← HD.out]; exact hn1⟩⟩
end Go.Proofs.YthbmnnnlkgbieaaGreatDoor
/- Contracts: the document's tokens, whatever the text. -/
namespace Go.Proofs.YthbmnnnlkgbieaaGreatDoor
open Go.RowKit

/-- What the document's Lex answers, whatever the text. -/
def RLext (s : ByteArray) (w : World) (e : Ending) (w' : World) : Prop :=
  Below w.heap.size w w' ∧ ((∃ (er : Nat) (a : Int), er ≠ 0 ∧ e = .returned (.tuple #[.slice none 0 0, .int .i64 er, .int .i64 a])) ∨
    ∃ l A cap, RLex s l ∧ s.size ≤ 16384 ∧ e = .returned (.tuple #[.slice A l.length cap, .int .i64 0, .int .i64 0]) ∧ TokAt w' A l ∧ l.length ≤ 4000 ∧ (0 < l.length → l.length ≤ cap))
theorem rlext_of {s : ByteArray} {w w' : World} {e : Ending} (hs : s.size ≤ 16384) (h : RLexed s w e w') : RLext s w e w' := by
  refine ⟨h.1, ?_⟩
  rcases h.2 with h2 | ⟨l, v, hl, he, hown, hn⟩
  · exact .inl h2
  · obtain ⟨A, cap, rfl⟩ := own_slice hown
    obtain ⟨g1, g2⟩ := TokAt.of_own hown rfl
    exact .inr ⟨l, A, cap, hl, hs, he, g1, hn, g2⟩
set_option maxHeartbeats 2000000 in
theorem rlext_any (s : ByteArray) (hs : (s.size : Int) ≤ 9223372036854775807) (w : World) : Calls Tryz.prog 17 #[.string s] w (RLext s w) := by
  by_cases hb : s.size > 16384
  · have hz : (s.size : Int) > 16384 := by omega
    clear hb
    go_enter Tryz.func17, Tryz.ntmps17
    go_wp2_with fail
    go_ret3
    exact ⟨Below.refl _ _, .inl ⟨5, 16384, by decide, rfl⟩⟩
  · by_cases hg : badAt s.data.toList = none
    · exact (rlex_any s (by omega) hg w).mono fun e w' h => rlext_of (by omega) h
    · have c := rbad_any s w (by omega)
      have hn : 0 ≤ badI s.data.toList := by
        unfold badI
        split
        · rename_i h'; exact absurd h' hg
        · omega
      obtain ⟨b, hb'⟩ : ∃ b, b = badI s.data.toList := ⟨_, rfl⟩
      rw [← hb'] at c hn
      have C := Lib.hid c
      have hz : ¬ (s.size : Int) > 16384 := by omega
      have hbz : b ≥ 0 := hn
      clear c hb hg hn hb'
      go_enter Tryz.func17, Tryz.ntmps17
      go_wp2_with fail
      refine C.out.mono ?_
      rintro e w1 ⟨rfl, rfl⟩
      go_wp2_with fail
      go_ret3
      exact ⟨Below.refl _ _, .inl ⟨20, b, by decide, rfl⟩⟩

/-! The tokens of a text are its pieces. -/
theorem Up.len {s : ByteArray} {D : List Tok} {k : Nat} (h : Up s D k) : k ≤ s.size := by
  cases h with
  | nil => omega
  | snoc _ hs => exact hs.2.2.2.2.2.2.2.1
end Go.Proofs.YthbmnnnlkgbieaaGreatDoor
/- Mathematics: the tokens of a text are its pieces; what Between answers, as edits in memory. -/
namespace Go.Proofs.YthbmnnnlkgbieaaGreatDoor
open Go.RowKit

theorem ext_b (s : ByteArray) (i j : Nat) : byt (s.extract i j) = ((byt s).drop i).take (j - i) := by
  show (s.extract i j).data.toList = _
  rw [ByteArray.data_extract, Array.toList_extract, List.extract_eq_take_drop]
theorem fl_unit1 (x : ByteArray) : fl (unit1 x) = byt x := by
  unfold unit1
  split
  · rename_i h
    have : (byt x).length = 0 := h
    rw [List.length_eq_zero_iff.1 this]
    rfl
  · simp [fl]
theorem full_unit1 (x : ByteArray) : Full1 (unit1 x) := by
  unfold unit1 Full1
  split
  · intro y hy; cases hy
  · intro y hy; rw [List.mem_singleton.1 hy]; assumption
theorem Full1.app {a b : List ByteArray} (ha : Full1 a) (hb : Full1 b) : Full1 (a ++ b) := fun x hx => by
  rcases List.mem_append.1 hx with h | h
  · exact ha x h
  · exact hb x h
theorem full_unitsT (t : Tok) : Full1 (unitsT t) := (full_unit1 _).app (full_unit1 _)
theorem full_unitsL : ∀ l : List Tok, Full1 (unitsL l)
  | [] => fun x hx => by cases hx
  | t :: l => by
    have : unitsL (t :: l) = unitsT t ++ unitsL l := by simp [unitsL]
    rw [this]
    exact (full_unitsT t).app (full_unitsL l)
theorem fl_unitsT (t : Tok) : fl (unitsT t) = byt t.lead ++ byt t.text := by
  unfold unitsT; rw [fl_append, fl_unit1, fl_unit1]
theorem take_up {α : Type} (l : List α) {i j : Nat} (h : i ≤ j) : l.take j = l.take i ++ (l.drop i).take (j - i) := by
  have : j = i + (j - i) := by omega
  conv => lhs; rw [this, List.take_add]
theorem Up.is {s : ByteArray} {D : List Tok} {k : Nat} (h : Up s D k) : fl (unitsL D) = (byt s).take k := by
  induction h with
  | nil => rfl
  | snoc hu hs ih =>
    rename_i D k k' t
    obtain ⟨h1, h2, h3, h4, h5⟩ := hs
    have hk := hu.len
    have ha := (atK_le s k hk).1
    have hk' : atK s k < k' := h5.2.2.1
    rw [unitsL_snoc, fl_append, ih, fl_unitsT, h3, h4, ext_b, ext_b, ← List.append_assoc, ← take_up _ ha, ← take_up _ (Nat.le_of_lt hk')]
theorem RLex.is {s : ByteArray} {l : List Tok} (h : RLex s l) : Is s (unitsL l) := by
  obtain ⟨D, k, t, hu, ⟨ha, rfl⟩, rfl⟩ := h
  have hk := hu.len
  unfold Is
  rw [unitsL_snoc, fl_append, hu.is, fl_unitsT]
  show _ = _ ++ (byt (s.extract k s.size) ++ byt (s.extract s.size s.size))
  rw [ext_b, ext_b, ← List.append_assoc, ← take_up _ hk, ← take_up _ (Nat.le_refl _)]
  have : (byt s).length = s.size := rfl
  rw [List.take_of_length_le (by omega)]
theorem size_mem (u : List ByteArray) (x : ByteArray) (h : x ∈ u) : x.size ≤ szs u := by
  induction u with
  | nil => cases h
  | cons a u ih =>
    have e : szs (a :: u) = a.size + szs u := by simp [szs]
    rcases List.mem_cons.1 h with rfl | h
    · omega
    · have := ih h; omega

/-- A row of edits is edits in memory. -/
theorem ecells_get : ∀ (es : List Ed) (i : Nat) (h : i < es.length) (c : Nat), c < 3 → (ecells es)[i * 3 + c]? = [Value.int .i64 es[i].f, .int .i64 es[i].t, .string es[i].x][c]?
  | t :: l, 0, h, c, hc => by
    simp only [ecells, List.flatMap_cons, Nat.zero_mul, Nat.zero_add, List.getElem_cons_zero]
    rw [List.getElem?_append_left (by simpa using hc)]
  | t :: l, i + 1, h, c, hc => by
    have ih := ecells_get l i (by simp at h; omega) c hc
    simp only [ecells, List.flatMap_cons, List.getElem_cons_succ]
    rw [List.getElem?_append_right (by simp; omega), show (i + 1) * 3 + c - [Value.int IntKind.i64 t.f, Value.int IntKind.i64 t.t, Value.string t.x].length = i * 3 + c by simp; omega]
    exact ih
theorem Eds.of_own {w : World} {base n cap : Nat} {A : Option Addr} {es : List Ed} (h : w.ownsRow base 38 3 (.slice A n cap) n (ecells es)) (hn : n = es.length) : Eds w w.heap.size A es := by
  subst hn
  intro h0
  have hlt := h.lt
  rcases h.2 with ⟨hv, hx⟩ | ⟨g, cap', cur, hv, h1, h2, h3⟩
  · omega
  · injection hv with e1 _ _
    subst e1
    have key : ∀ j u, (ecells es)[j]? = some u → w.cell? ⟨g, j, none⟩ = some u := fun j u hu => by
      have := h.cells (g := g) rfl j u hu
      simp only [Addr.add] at this
      by_cases hj : j = 0 <;> simpa [hj] using this
    refine ⟨g, 0, rfl, (hlt g rfl).2, fun i hi => ⟨?_, ?_, ?_⟩⟩
    · exact key _ _ (by rw [show 0 + i * 3 = i * 3 + 0 by omega, ecells_get es i hi 0 (by omega)]; rfl)
    · exact key _ _ (by rw [show 0 + i * 3 + 1 = i * 3 + 1 by omega, ecells_get es i hi 1 (by omega)]; rfl)
    · exact key _ _ (by rw [show 0 + i * 3 + 2 = i * 3 + 2 by omega, ecells_get es i hi 2 (by omega)]; rfl)

/-- What Between answers of two texts' tokens: edits in memory. -/
def BetE (u v : List ByteArray) (w : World) (e : Ending) (w' : World) : Prop :=
  ∃ G A cap, Ap u v G ∧ e = .returned (.slice A (edsOf u v (Dl.few G)).length cap) ∧ Eds w' w'.heap.size A (edsOf u v (Dl.few G)) ∧ (edsOf u v (Dl.few G)).length ≤ 512 ∧ Below w.heap.size w w'
theorem bete_any (s t : ByteArray) (la lb : List Tok) (A B : Option Addr) (ca cb : Nat) (w : World) (hra : RLex s la) (hrb : RLex t lb) (hs : s.size ≤ 16384) (ht : t.size ≤ 16384) (hA : TokAt w A la) (hB : TokAt w B lb) (hla : la.length ≤ 4000) (hlb : lb.length ≤ 4000) (hca : la.length ≤ ca) (hcb : lb.length ≤ cb) :
    Calls Tryz.prog 9 #[.slice A la.length ca, .slice B lb.length cb] w (BetE (unitsL la) (unitsL lb) w) := by
  have za : szs (unitsL la) = s.size := hra.is.size.symm
  have zb : szs (unitsL lb) = t.size := hrb.is.size.symm
  refine (between_any la lb A B ca cb w hA hB hla hlb hca hcb (fun x hx => ?_) (fun x hx => ?_) (by omega) (by omega)).mono ?_
  · have := size_mem _ _ hx; unfold maxLen; omega
  · have := size_mem _ _ hx; unfold maxLen; omega
  · rintro e w' ⟨G, v, hG, he, hown, hb⟩
    obtain ⟨A', cap, rfl⟩ := own_slice hown
    exact ⟨G, A', cap, hG, he, Eds.of_own hown rfl, by rw [edsOf, List.length_map]; exact (Dl.few_len G).1, hb⟩
/-- What makes the other text of the one. -/
theorem RLex.snd {s t : ByteArray} {la lb : List Tok} (hra : RLex s la) (hrb : RLex t lb) {G : List Dl.Gap} (h : Ap (unitsL la) (unitsL lb) G) :
    snd (edsOf (unitsL la) (unitsL lb) (Dl.few G)) s.size = 0 ∧ apd s (edsOf (unitsL la) (unitsL lb) (Dl.few G)) = t.data.toList := by
  rw [hra.is.size]
  exact ⟨bet_snd (full_unitsL _) (full_unitsL _) h, bet_apd hra.is hrb.is (full_unitsL _) h⟩
end Go.Proofs.YthbmnnnlkgbieaaGreatDoor
/- Contracts of the laws of package delta: the tokens of two texts. -/
namespace Go.Proofs.YthbmnnnlkgbieaaGreatDoor
open Go.RowKit

/-- Tokens in memory. -/
def TokS (w : World) (s : ByteArray) (l : List Tok) (A : Option Addr) (c : Nat) : Prop := RLex s l ∧ s.size ≤ 16384 ∧ TokAt w A l ∧ l.length ≤ 4000 ∧ l.length ≤ c
theorem RLex.pos {s : ByteArray} {l : List Tok} (h : RLex s l) : 0 < l.length := by
  obtain ⟨D, k, t, _, _, rfl⟩ := h
  simp
theorem TokS.below {w w' : World} {s : ByteArray} {l : List Tok} {A : Option Addr} {c : Nat} (h : TokS w s l A c) (hb : Below w.heap.size w w') : TokS w' s l A c :=
  ⟨h.1, h.2.1, h.2.2.1.below hb, h.2.2.2⟩
/-- What both answers. -/
def BothP (s t : ByteArray) (w : World) (e : Ending) (w' : World) : Prop :=
  Below w.heap.size w w' ∧ ((∃ x y, e = .returned (.tuple #[x, y, .bool false])) ∨ ∃ la lb A B ca cb, TokS w' s la A ca ∧ TokS w' t lb B cb ∧ s.size + t.size ≤ 4000 ∧ e = .returned (.tuple #[.slice A la.length ca, .slice B lb.length cb, .bool true]))
def LexS (s : ByteArray) (_w : World) (e : Ending) (w' : World) : Prop :=
  (∃ (er : Nat) (a : Int), er ≠ 0 ∧ e = .returned (.tuple #[.slice none 0 0, .int .i64 er, .int .i64 a])) ∨ ∃ l A cap, TokS w' s l A cap ∧ e = .returned (.tuple #[.slice A l.length cap, .int .i64 0, .int .i64 0])
theorem lexs_any (s : ByteArray) (hs : (s.size : Int) ≤ 9223372036854775807) (w : World) : Calls Tryz.prog 17 #[.string s] w fun e w' => Below w.heap.size w w' ∧ LexS s w e w' := by
  refine (rlext_any s hs w).mono ?_
  rintro e w' ⟨hb, h | ⟨l, A, cap, h1, h2, h3, h4, h5, h6⟩⟩
  · exact ⟨hb, .inl h⟩
  · exact ⟨hb, .inr ⟨l, A, cap, ⟨h1, h2, h4, h5, h6 h1.pos⟩, h3⟩⟩

set_option maxHeartbeats 4000000 in
theorem both_any (s t : ByteArray) (hs : (s.size : Int) ≤ 9223372036854775807) (ht : (t.size : Int) ≤ 9223372036854775807) (w : World) : Calls Tryz.prog 7 #[.string s, .string t] w (BothP s t w) := by
  go_enter Tryz.func7, Tryz.ntmps7
  go_wp2_with fail
  refine (lexs_any s hs w).mono ?_
  rintro e w1 ⟨hb1, h1⟩
  have HB1 := Lib.hid hb1
  rcases h1 with ⟨er, a, her, rfl⟩ | ⟨la, A, ca, hS, rfl⟩
  · have z1 : ((er : Int) == 0) = false := by rw [beq_eq_false_iff_ne]; omega
    clear hb1
    go_wp2_with fail
    refine (lexs_any t ht w1).mono ?_
    rintro e w2 ⟨hb2, h2⟩
    have HB2 := Lib.hid (step_below HB1.out hb2)
    rcases h2 with ⟨er2, a2, her2, rfl⟩ | ⟨lb, B, cb, hT, rfl⟩
    all_goals
      first | clear hb2 her2 | clear hb2 hT
      go_wp2_with fail
      go_ret3
      exact ⟨HB2.out, .inl ⟨_, _, rfl⟩⟩
  · have HS := Lib.hid hS
    clear hb1 hS
    go_wp2_with fail
    refine (lexs_any t ht w1).mono ?_
    rintro e w2 ⟨hb2, h2⟩
    have HB2 := Lib.hid (step_below HB1.out hb2)
    have HS2 := Lib.hid (HS.out.below hb2)
    rcases h2 with ⟨er2, a2, her2, rfl⟩ | ⟨lb, B, cb, hT, rfl⟩
    · have z2 : ((er2 : Int) == 0) = false := by rw [beq_eq_false_iff_ne]; omega
      clear hb2 her2
      go_wp2_with fail
      go_ret3
      exact ⟨HB2.out, .inl ⟨_, _, rfl⟩⟩
    · have HT := Lib.hid hT
      have k1 : s.size ≤ 16384 := HS.out.2.1
      have k2 : t.size ≤ 16384 := hT.2.1
      clear hb2 hT
      by_cases h : s.size + t.size ≤ 4000
      · have z : (s.size : Int) + (t.size : Int) ≤ 4000 := by omega
        go_wp2_with fail
        go_ret3
        exact ⟨HB2.out, .inr ⟨la, lb, A, B, ca, cb, HS2.out, HT.out, h, rfl⟩⟩
      · have z : ¬ (s.size : Int) + (t.size : Int) ≤ 4000 := by omega
        go_wp2_with fail
        go_ret3
        exact ⟨HB2.out, .inl ⟨_, _, congrArg (fun b => Ending.returned (.tuple #[.slice A la.length ca, .slice B lb.length cb, .bool b])) (decide_eq_false (by omega))⟩⟩
end Go.Proofs.YthbmnnnlkgbieaaGreatDoor
/- The document's example of package delta holds. -/
namespace Go.Proofs.YthbmnnnlkgbieaaGreatDoor
open Go.RowKit

theorem Ap.good {u v : List ByteArray} {G : List Dl.Gap} (h : Ap u v G) (hm : u.length * v.length ≤ 1048576) : Dl.Good (bs u) (bs v) 0 0 G ∧ Dl.Sep G := by
  have hw := h.way
  rcases h with h | ⟨p, x, y, _, rfl, hlt⟩
  · exact h
  · exfalso
    have := hw.out ⟨p, p, x, y⟩ (List.mem_singleton.2 rfl)
    rw [bs_len, bs_len] at this
    dsimp only at this
    have h2 : (x - p) * (y - p) ≤ u.length * v.length := Nat.mul_le_mul (by omega) (by omega)
    omega
def exA : List Tok := [⟨1, 0, ⟨#[]⟩, ⟨#[97]⟩⟩, ⟨1, 2, ⟨#[32]⟩, ⟨#[98]⟩⟩, ⟨0, 3, ⟨#[]⟩, ⟨#[]⟩⟩]
def exB : List Tok := [⟨1, 0, ⟨#[]⟩, ⟨#[97]⟩⟩, ⟨1, 2, ⟨#[32]⟩, ⟨#[99]⟩⟩, ⟨0, 3, ⟨#[]⟩, ⟨#[]⟩⟩]
theorem lexR_exA : lexR ⟨#[97, 32, 98]⟩ = .good exA := by
  unfold lexR
  rw [if_neg (by decide), if_neg (by rw [ascii_good _ (by decide)]; simp)]
  kernel_rfl
theorem lexR_exB : lexR ⟨#[97, 32, 99]⟩ = .good exB := by
  unfold lexR
  rw [if_neg (by decide), if_neg (by rw [ascii_good _ (by decide)]; simp)]
  kernel_rfl
theorem uexA : unitsL exA = [⟨#[97]⟩, ⟨#[32]⟩, ⟨#[98]⟩] := by kernel_rfl
theorem uexB : unitsL exB = [⟨#[97]⟩, ⟨#[32]⟩, ⟨#[99]⟩] := by kernel_rfl
theorem ex_mark : Dl.Mark (α := List UInt8) [[97], [32], [98]] [[97], [32], [99]] (fun i => i == 2) := by
  refine ⟨rfl, ?_, ?_, ?_⟩
  · rintro i j ⟨x, h1, h2⟩
    have hi : i < 3 := (List.getElem?_eq_some_iff.1 h1).1
    have hj : j < 3 := (List.getElem?_eq_some_iff.1 h2).1
    have key : ∀ i : Fin 3, ∀ j : Fin 3, ([[97], [32], [98]] : List (List UInt8))[i.val]? = ([[97], [32], [99]] : List (List UInt8))[j.val]? → (i.val == 2) = false ∧ (j.val == 2) = false := by decide
    exact key ⟨i, hi⟩ ⟨j, hj⟩ (h1.trans h2.symm)
  · intro i hi hp
    have key : ∀ i : Fin 3, (i.val == 2) = false → ([[97], [32], [98]] : List (List UInt8))[i.val]? = ([[97], [32], [99]] : List (List UInt8))[i.val]? := by decide
    exact ⟨_, List.getElem?_eq_getElem hi, (key ⟨i, hi⟩ hp).symm.trans (List.getElem?_eq_getElem hi)⟩
  · intro i hi hp
    have : i = 2 := by simpa using hp
    subst this
    rfl
theorem ex_eds {G : List Dl.Gap} (h : Ap (unitsL exA) (unitsL exB) G) : edsOf (unitsL exA) (unitsL exB) (Dl.few G) = [⟨2, 3, ⟨#[99]⟩⟩] := by
  rw [uexA, uexB] at h ⊢
  have hg := (h.good (by decide)).1
  have e : G = Dl.marks (fun i => i == 2) 3 0 := ex_mark.only hg rfl
  rw [e]
  rfl

set_option maxHeartbeats 2000000 in
set_option maxRecDepth 100000 in
theorem awake_any (w : World) (hT : Tabs w) (hE : Errs w) : Calls Tryz.prog 8 #[] w fun e w' => e = .returned (.bool true) ∧ Below w.heap.size w w' := by
  have C := Lib.hid (lext_any ⟨#[97, 32, 98]⟩ (by decide) w hT hE)
  have HT := Lib.hid hT
  have HE := Lib.hid hE
  clear hT hE
  go_enter Tryz.func8, Tryz.ntmps8
  go_wp2_with fail
  refine C.out.mono ?_
  rintro e w1 ⟨hb, h⟩
  rw [lexR_exA] at h
  obtain ⟨A, ca, rfl, hta, _, hca⟩ := h
  have hca := hca (by decide)
  have C2 := Lib.hid (lext_any ⟨#[97, 32, 99]⟩ (by decide) w1 (HT.out.step hb) (HE.out.below hb))
  have HB := Lib.hid hb
  have HTA := Lib.hid hta
  have HCA := Lib.hid hca
  clear hb hta hca C
  go_wp2_with fail
  refine C2.out.mono ?_
  rintro e w2 ⟨hb, h⟩
  rw [lexR_exB] at h
  obtain ⟨B, cb, rfl, htb, _, hcb⟩ := h
  have hcb := hcb (by decide)
  have C3 := Lib.hid (between_any exA exB A B ca cb w2 (HTA.out.below hb) htb (by decide) (by decide) HCA.out hcb (by rw [uexA]; decide) (by rw [uexB]; decide) (by rw [uexA]; decide) (by rw [uexB]; decide))
  have HB2 := Lib.hid (step_below HB.out hb)
  clear hb htb hcb C2
  go_wp2_with fail
  refine C3.out.mono ?_
  rintro e w3 ⟨G, v, hG, rfl, hown, hb⟩
  rw [ex_eds hG] at hown
  obtain ⟨A', cap, rfl⟩ := own_slice hown
  have e1 : [(⟨2, 3, ⟨#[99]⟩⟩ : Ed)].length = 1 := rfl
  rw [e1] at hown ⊢
  clear e1
  have hes := Eds.of_own hown rfl
  obtain ⟨g, off, rfl, _, hc⟩ := hes (by decide)
  have q0 : w3.cell? ⟨g, off, none⟩ = some (.int .i64 2) := (hc 0 (by decide)).1
  have q1 : w3.cell? ⟨g, off + 1, none⟩ = some (.int .i64 3) := (hc 0 (by decide)).2.1
  have q2 : w3.cell? ⟨g, off + 2, none⟩ = some (.string ⟨#[99]⟩) := (hc 0 (by decide)).2.2
  have HB3 := Lib.hid (step_below HB2.out hb)
  clear hb hc hes hown hG C3
  go_wp2_with fail
  go_ret
  exact ⟨by simp, HB3.out⟩
end Go.Proofs.YthbmnnnlkgbieaaGreatDoor
/- Contracts: the document's answer for package delta: where units end. -/
namespace Go.Proofs.YthbmnnnlkgbieaaGreatDoor
open Go.RowKit

/-- Is it a place where a unit begins, or the last one ends? -/
def EndsP (l : List ByteArray) (p : Int) (w : World) (e : Ending) (w' : World) : Prop :=
  ∃ b : Bool, e = .returned (.bool b) ∧ (b = true ↔ ∃ i, i ≤ l.length ∧ (szs (l.take i) : Int) = p) ∧ w = w'

set_option maxHeartbeats 2000000 in
theorem ends_any (l : List ByteArray) (A : Option Addr) (cap : Nat) (p : Int) (w : World) (hS : Strs w w.heap.size A l) (hl : l.length ≤ 100000) (_hcap : l.length ≤ cap) (hz : szs l ≤ 100000) :
    Calls Tryz.prog 15 #[.slice A l.length cap, .int .i64 p] w (EndsP l p w) := by
  have HS := Lib.hid hS
  have HZ : Hid (∀ i, szs (l.take i) ≤ 100000) := fun i => Nat.le_trans (szs_le l i) hz
  clear hS hz
  go_enter Tryz.func15, Tryz.ntmps15
  go_wp2_with fail
  go_loopg [5, 6] (l.length + 1) (fun kx v x wr => ∃ (i n : Nat), v = .int .i64 n ∧ x = .int .i64 i ∧ i ≤ l.length ∧ l.length - i ≤ kx ∧ n ≤ 100000 ∧ Hid (n = szs (l.take i)) ∧ Hid (∀ j, j < i → (szs (l.take j) : Int) ≠ p) ∧ Hid (w = wr))
  case atStart => exact ⟨0, 0, rfl, rfl, by omega, by omega, by omega, by unfold Hid; rfl, fun j hj => by omega, rfl⟩
  case round =>
    obtain ⟨i, n, rfl, rfl, hi, hkx, hn, HN, HP, HW⟩ := hrel
    obtain rfl := HW.out
    by_cases hlt : i < l.length
    · by_cases he : (n : Int) = p
      · have he' : ((n : Int) == p) = true := by simpa using he
        have HR : Hid (∃ i, i ≤ l.length ∧ (szs (l.take i) : Int) = p) := ⟨i, hi, by rw [← HN.out]; exact he⟩
        clear he
        go_wp2_with fail
        go_ret
        exact ⟨true, rfl, ⟨fun _ => HR.out, fun _ => rfl⟩, rfl⟩
      · have he' : ((n : Int) == p) = false := by simpa using he
        have HP2 : Hid (∀ j, j < i + 1 → (szs (l.take j) : Int) ≠ p) := fun j hj => by
          by_cases hji : j = i
          · rw [hji, ← HN.out]; exact he
          · exact HP.out j (by omega)
        obtain ⟨g, off, rfl, hg, hc⟩ := HS.out (by omega)
        have q := hc i hlt
        obtain ⟨x, hx⟩ : ∃ x, x = l[i] := ⟨_, rfl⟩
        rw [← hx] at q
        have hn2 : Hid (n + x.size = szs (l.take (i + 1))) := by
          unfold Hid; rw [szs_take l i hlt, HN.out, hx]
        have hb : n + x.size ≤ 100000 := by rw [hn2.out]; exact HZ.out _
        clear he hc hx
        go_wp2_with fail
        go_roundg (l.length - (i + 1))
        case measure => omega
        case rel => exact ⟨i + 1, n + x.size, by go_num, by go_num, by omega, by omega, hb, hn2.out, HP2.out, rfl⟩
    · obtain rfl : i = l.length := by omega
      have hnl : ¬ (l.length : Int) < (l.length : Int) := by omega
      obtain ⟨b, hb⟩ : ∃ b, b = ((n : Int) == p) := ⟨_, rfl⟩
      have HB := Lib.hid hb
      have HR : Hid (b = true ↔ ∃ i, i ≤ l.length ∧ (szs (l.take i) : Int) = p) := by
        unfold Hid
        rw [hb]
        constructor
        · intro h
          exact ⟨l.length, Nat.le_refl _, by rw [← HN.out]; simpa using h⟩
        · rintro ⟨j, hj, he⟩
          by_cases hjl : j = l.length
          · rw [hjl, ← HN.out] at he; simpa using he
          · exact absurd he (HP.out j (by omega))
      clear hb
      go_wp2_with fail
      go_ret
      exact ⟨b, rb (by rw [HB.out]), HR.out, rfl⟩
end Go.Proofs.YthbmnnnlkgbieaaGreatDoor
/- Contracts: the document's units of tokens. -/
namespace Go.Proofs.YthbmnnnlkgbieaaGreatDoor
open Go.RowKit

theorem unit1_nil {x : ByteArray} (h : x.size = 0) : unit1 x = [] := by simp [unit1, h]
theorem unit1_one {x : ByteArray} (h : ¬ x.size = 0) : unit1 x = [x] := by simp [unit1, h]
set_option maxHeartbeats 8000000 in
set_option maxRecDepth 100000 in
theorem runits_any (l : List Tok) (A : Option Addr) (cap : Nat) (w : World) (hA : TokAt w A l) (hl : l.length ≤ 4000) (_hcap : l.length ≤ cap) :
    Calls Tryz.prog 12 #[.slice A l.length cap] w fun e w' => ∃ v, e = .returned v ∧ w'.ownsRow w.heap.size 9 1 v (unitsL l).length ((unitsL l).map Value.string) ∧ Below w.heap.size w w' := by
  obtain ⟨i0, hi0, hz0, hz1, hz2⟩ := info_parts info9
  have HA := Lib.hid hA
  clear hA
  go_enter Tryz.func12, Tryz.ntmps12
  go_wp2_with fail
  go_loopg [3, 4] (l.length + 1) (fun kx v x wr => ∃ (k : Nat) (u : Value), u = v ∧ x = .int .i64 k ∧ k ≤ l.length ∧ l.length - k ≤ kx ∧ Hid (wr.ownsRow w.heap.size 9 1 v (unitsL (l.take k)).length ((unitsL (l.take k)).map Value.string)) ∧ Hid (Below w.heap.size w wr))
  case atStart => exact ⟨0, _, rfl, rfl, by omega, by omega, World.ownsRow_nil _ _ _ _, Below.refl _ _⟩
  case round =>
    obtain ⟨k, u, rfl, rfl, hk, hkx, HO, HB⟩ := hrel
    by_cases hlt : k < l.length
    · obtain ⟨g, eg, lg, hc⟩ := HA.out (by omega)
      obtain ⟨q0, q1, q2, q3⟩ := hc k hlt
      subst eg
      have z2 := (HB.out.cell (p := ⟨g, k * 4 + 2, none⟩) lg).trans q2
      have z3 := (HB.out.cell (p := ⟨g, k * 4 + 3, none⟩) lg).trans q3
      have htk := List.take_succ_eq_append_getElem hlt
      have hLk : (unitsL (l.take k)).length ≤ 8000 := Nat.le_trans (unitsL_len _) (by rw [List.length_take]; omega)
      generalize l[k] = t at *
      have hst : unitsL (l.take (k + 1)) = unitsL (l.take k) ++ unit1 t.lead ++ unit1 t.text := by
        rw [htk, unitsL_snoc, unitsT, List.append_assoc]
      have HST := Lib.hid hst
      have HQ2 := Lib.hid q2
      have HQ3 := Lib.hid q3
      have HLG := Lib.hid lg
      clear hc q0 q1 q2 q3 htk hst lg
      generalize unitsL (l.take k) = U at *
      have hww := HB.out.size
      by_cases e1 : t.lead.size = 0
      · have n1 : ¬ (t.lead.size : Int) > 0 := by omega
        have HE1 := Lib.hid (unit1_nil e1)
        clear e1
        by_cases e2 : t.text.size = 0
        · have n2 : ¬ (t.text.size : Int) > 0 := by omega
          have HE2 := Lib.hid (unit1_nil e2)
          have HOn : Hid (wr.ownsRow w.heap.size 9 1 u (unitsL (l.take (k + 1))).length ((unitsL (l.take (k + 1))).map Value.string)) := by
            rw [HST.out, HE1.out, HE2.out, List.append_nil, List.append_nil]; exact HO.out
          clear e2
          go_wp2_with fail
          go_roundg (l.length - (k + 1))
          case measure => omega
          case rel => exact ⟨k + 1, _, rfl, by go_num, by omega, by omega, HOn.out, HB.out⟩
        · have n2 : (t.text.size : Int) > 0 := by omega
          have HE2 := Lib.hid (unit1_one e2)
          clear e2
          have b3 : U.length + 1 ≤ maxLen := by unfold maxLen; omega
          have b4 : (U.length + 1) * 16 ≤ 140737488355328 := by omega
          have b5 : w.heap.size ≤ (wr.alloc (.cells #[.string t.text] 9)).heap.size := by simp; omega
          have cn : ∀ (c : Nat) (y : Value), [Value.string t.text][c]? = some y → (wr.alloc (.cells #[.string t.text] 9)).cell? ((⟨wr.heap.size, 0, none⟩ : Addr).add c) = some y := World.news_of_block (heap_new wr (.cells #[.string t.text] 9))
          have CN := Lib.hid cn
          have on1 : ∀ y ∈ [Value.string t.text], y.oneCell' = true := by simp [Value.oneCell']
          clear cn
          go_wp2_with (at_builtin; refine wpList_append_own _ rfl (.tmp 33) (.tmp 39) 34 rfl w.heap.size 9 i0 (.string ⟨#[]⟩) 1 16 Tryz.underlying34 hi0 hz0 hz1 hz2 rfl (by decide) _ _ _ rfl (HO.out.alloc _) ⟨wr.heap.size, 0, none⟩ 1 1 [.string t.text] rfl rfl CN.out on1 b3 b4 b5 ?_)
          intro v' w3 hown' hgrow _
          have OA := Lib.hid hown'
          have BA := Lib.hid ((HB.out.alloc hww (.cells #[.string t.text] 9)).grown hgrow b5 (fun c hc => (HO.out.lt c hc).1))
          clear hown' hgrow b3 b4 b5 on1 CN
          have HOn : Hid (w3.ownsRow w.heap.size 9 1 v' (unitsL (l.take (k + 1))).length ((unitsL (l.take (k + 1))).map Value.string)) := by
            rw [HST.out, HE1.out, HE2.out, List.append_nil, List.map_append, List.length_append]; exact OA.out
          go_wp2_with fail
          go_roundg (l.length - (k + 1))
          case measure => omega
          case rel => exact ⟨k + 1, _, rfl, by go_num, by omega, by omega, HOn.out, BA.out⟩
      · have n1 : (t.lead.size : Int) > 0 := by omega
        have HE1 := Lib.hid (unit1_one e1)
        clear e1
        have b3 : U.length + 1 ≤ maxLen := by unfold maxLen; omega
        have b4 : (U.length + 1) * 16 ≤ 140737488355328 := by omega
        have b5 : w.heap.size ≤ (wr.alloc (.cells #[.string t.lead] 9)).heap.size := by simp; omega
        have cn : ∀ (c : Nat) (y : Value), [Value.string t.lead][c]? = some y → (wr.alloc (.cells #[.string t.lead] 9)).cell? ((⟨wr.heap.size, 0, none⟩ : Addr).add c) = some y := World.news_of_block (heap_new wr (.cells #[.string t.lead] 9))
        have CN := Lib.hid cn
        have on1 : ∀ y ∈ [Value.string t.lead], y.oneCell' = true := by simp [Value.oneCell']
        clear cn
        go_wp2_with (at_builtin; refine wpList_append_own _ rfl (.tmp 18) (.tmp 24) 34 rfl w.heap.size 9 i0 (.string ⟨#[]⟩) 1 16 Tryz.underlying34 hi0 hz0 hz1 hz2 rfl (by decide) _ _ _ rfl (HO.out.alloc _) ⟨wr.heap.size, 0, none⟩ 1 1 [.string t.lead] rfl rfl CN.out on1 b3 b4 b5 ?_)
        intro v' w3 hown' hgrow _
        have OA := Lib.hid hown'
        have BA := Lib.hid ((HB.out.alloc hww (.cells #[.string t.lead] 9)).grown hgrow b5 (fun c hc => (HO.out.lt c hc).1))
        clear hown' hgrow b3 b4 b5 on1 CN
        have y2 := (BA.out.cell (p := ⟨g, k * 4 + 2, none⟩) HLG.out).trans HQ2.out
        have y3 := (BA.out.cell (p := ⟨g, k * 4 + 3, none⟩) HLG.out).trans HQ3.out
        have OB := Lib.hid (show w3.ownsRow w.heap.size 9 1 v' (U ++ [t.lead]).length ((U ++ [t.lead]).map Value.string) by rw [List.map_append, List.length_append]; exact OA.out)
        have BB := BA
        have hw3 := BB.out.size
        have hLk2 : (U ++ [t.lead]).length ≤ 8001 := by simp; omega
        clear OA BA z2 z3 hLk hww
        by_cases e2 : t.text.size = 0
        · have n2 : ¬ (t.text.size : Int) > 0 := by omega
          have HE2 := Lib.hid (unit1_nil e2)
          have HOn : Hid (w3.ownsRow w.heap.size 9 1 v' (unitsL (l.take (k + 1))).length ((unitsL (l.take (k + 1))).map Value.string)) := by
            rw [HST.out, HE1.out, HE2.out, List.append_nil]; exact OB.out
          clear e2
          go_wp2_with fail
          go_roundg (l.length - (k + 1))
          case measure => omega
          case rel => exact ⟨k + 1, _, rfl, by go_num, by omega, by omega, HOn.out, BB.out⟩
        · have n2 : (t.text.size : Int) > 0 := by omega
          have HE2 := Lib.hid (unit1_one e2)
          clear e2
          have HST2 := Lib.hid (show unitsL (l.take (k + 1)) = (U ++ [t.lead]) ++ [t.text] by rw [HST.out, HE1.out, HE2.out])
          generalize U ++ [t.lead] = V at *
          clear HO HB
          have b3 : V.length + 1 ≤ maxLen := by unfold maxLen; omega
          have b4 : (V.length + 1) * 16 ≤ 140737488355328 := by omega
          have b5 : w.heap.size ≤ (w3.alloc (.cells #[.string t.text] 9)).heap.size := by simp; omega
          have cn : ∀ (c : Nat) (y : Value), [Value.string t.text][c]? = some y → (w3.alloc (.cells #[.string t.text] 9)).cell? ((⟨w3.heap.size, 0, none⟩ : Addr).add c) = some y := World.news_of_block (heap_new w3 (.cells #[.string t.text] 9))
          have CN := Lib.hid cn
          have on1 : ∀ y ∈ [Value.string t.text], y.oneCell' = true := by simp [Value.oneCell']
          clear cn
          go_wp2_with (at_builtin; refine wpList_append_own _ rfl (.tmp 33) (.tmp 39) 34 rfl w.heap.size 9 i0 (.string ⟨#[]⟩) 1 16 Tryz.underlying34 hi0 hz0 hz1 hz2 rfl (by decide) _ _ _ rfl (OB.out.alloc _) ⟨w3.heap.size, 0, none⟩ 1 1 [.string t.text] rfl rfl CN.out on1 b3 b4 b5 ?_)
          intro v' w4 hown' hgrow _
          have OA := Lib.hid hown'
          have BA := Lib.hid ((BB.out.alloc hw3 (.cells #[.string t.text] 9)).grown hgrow b5 (fun c hc => (OB.out.lt c hc).1))
          clear hown' hgrow b3 b4 b5 on1 CN
          have HOn : Hid (w4.ownsRow w.heap.size 9 1 v' (unitsL (l.take (k + 1))).length ((unitsL (l.take (k + 1))).map Value.string)) := by
            rw [HST2.out, List.map_append, List.length_append]; exact OA.out
          go_wp2_with fail
          go_roundg (l.length - (k + 1))
          case measure => omega
          case rel => exact ⟨k + 1, _, rfl, by go_num, by omega, by omega, HOn.out, BA.out⟩
    · obtain rfl : k = l.length := by omega
      have hO := HO.out
      rw [List.take_length] at hO
      have HOf := Lib.hid hO
      have hnl : ¬ (l.length : Int) < (l.length : Int) := by omega
      clear hO HO
      go_wp2
      go_ret
      exact ⟨_, rfl, HOf.out, HB.out⟩
end Go.Proofs.YthbmnnnlkgbieaaGreatDoor
/- Contracts: the document's answer for package delta: which units a span has. -/
namespace Go.Proofs.YthbmnnnlkgbieaaGreatDoor
open Go.RowKit

/-- The units from one place to another one, of the first k. -/
def cutM (l : List ByteArray) (i j k : Nat) : List ByteArray := (l.take (min k j)).drop i
theorem cutM_fore {l : List ByteArray} {i j k : Nat} (h : k < i) : cutM l i j (k + 1) = cutM l i j k := by
  unfold cutM
  rw [List.drop_eq_nil_of_le (by rw [List.length_take]; omega), List.drop_eq_nil_of_le (by rw [List.length_take]; omega)]
theorem cutM_in {l : List ByteArray} {i j k : Nat} (h : i ≤ k) (h2 : k < j) (hl : k < l.length) : cutM l i j (k + 1) = cutM l i j k ++ [l[k]] := by
  unfold cutM
  rw [Nat.min_eq_left (by omega), Nat.min_eq_left (by omega), List.take_succ_eq_append_getElem hl, List.drop_append_of_le_length (by rw [List.length_take]; omega)]
theorem cutM_hind {l : List ByteArray} {i j k : Nat} (h : j ≤ k) : cutM l i j (k + 1) = cutM l i j k := by
  unfold cutM
  rw [Nat.min_eq_right (by omega), Nat.min_eq_right h]
theorem cutM_len (l : List ByteArray) (i j k : Nat) : (cutM l i j k).length ≤ l.length := by
  unfold cutM
  rw [List.length_drop, List.length_take]
  omega
/-- What Cut answers of whole units. -/
def CutP (l : List ByteArray) (i j : Nat) (w : World) (e : Ending) (w' : World) : Prop :=
  ∃ v, e = .returned (.tuple #[v, .bool true]) ∧ w'.ownsRow w.heap.size 9 1 v ((l.take j).drop i).length (((l.take j).drop i).map Value.string) ∧ Below w.heap.size w w'

set_option maxHeartbeats 8000000 in
set_option maxRecDepth 100000 in
theorem cut_any (l : List ByteArray) (A : Option Addr) (cap i j : Nat) (w : World) (hS : Strs w w.heap.size A l) (hl : l.length ≤ 8000) (_hcap : l.length ≤ cap) (hz : szs l ≤ 100000) (hf : Full1 l) (hij : i ≤ j) (hj : j ≤ l.length) :
    Calls Tryz.prog 14 #[.slice A l.length cap, .int .i64 (szs (l.take i) : Nat), .int .i64 (szs (l.take j) : Nat)] w (CutP l i j w) := by
  obtain ⟨i0, hi0, hz0, hz1, hz2⟩ := info_parts info9
  have HS := Lib.hid hS
  have HZ : Hid (∀ i, szs (l.take i) ≤ 100000) := fun i => Nat.le_trans (szs_le l i) hz
  have HF := Lib.hid hf
  obtain ⟨F, hF⟩ : ∃ F, F = szs (l.take i) := ⟨_, rfl⟩
  obtain ⟨T, hT⟩ : ∃ T, T = szs (l.take j) := ⟨_, rfl⟩
  rw [← hF, ← hT]
  have HFF := Lib.hid hF
  have HTT := Lib.hid hT
  clear hS hz hf hF hT
  go_enter Tryz.func14, Tryz.ntmps14
  go_wp2_with fail
  go_loopg [8, 9, 10] (l.length + 1) (fun kx v y x wr => ∃ (k n : Nat) (u : Value), u = v ∧ y = .int .i64 n ∧ x = .int .i64 k ∧ k ≤ l.length ∧ l.length - k ≤ kx ∧ n ≤ 100000 ∧ Hid (n = szs (l.take k)) ∧ Hid (wr.ownsRow w.heap.size 9 1 v (cutM l i j k).length ((cutM l i j k).map Value.string)) ∧ Hid (Below w.heap.size w wr))
  case atStart => exact ⟨0, 0, _, rfl, rfl, rfl, by omega, by omega, by omega, by unfold Hid; rfl, by unfold Hid; rw [show cutM l i j 0 = [] by simp [cutM]]; exact World.ownsRow_nil _ _ _ _, Below.refl _ _⟩
  case round =>
    obtain ⟨k, n, u, rfl, rfl, rfl, hk, hkx, hn, HN, HO, HB⟩ := hrel
    by_cases hlt : k < l.length
    · obtain ⟨g, off, eg, hg, hc⟩ := HS.out (by omega)
      subst eg
      have q := (HB.out.cell (p := ⟨g, off + k, none⟩) hg).trans (hc k hlt)
      obtain ⟨x, hx⟩ : ∃ x, x = l[k] := ⟨_, rfl⟩
      rw [← hx] at q
      have hpos : 0 < x.size := by have := HF.out l[k] (List.getElem_mem hlt); rw [hx]; omega
      have hn2 : Hid (n + x.size = szs (l.take (k + 1))) := by
        unfold Hid; rw [szs_take l k hlt, HN.out, hx]
      have hb : n + x.size ≤ 100000 := by rw [hn2.out]; exact HZ.out _
      have HX := Lib.hid hx
      have hLk : (cutM l i j k).length ≤ 8000 := Nat.le_trans (cutM_len _ _ _ _) hl
      have hww := HB.out.size
      clear hc hx
      by_cases h1 : k < i
      · have a1 : n < F := by rw [HN.out, HFF.out]; exact szs_lt HF.out h1 (by omega)
        have a2 : n + x.size ≤ F := by rw [hn2.out, HFF.out]; exact szs_mono (by omega)
        have a3 : F ≤ T := by rw [HTT.out, HFF.out]; exact szs_mono hij
        have b1 : ¬ (n : Int) ≥ (F : Int) := by omega
        have b2 : (n : Int) < (T : Int) := by omega
        have b3 : ¬ (n : Int) + (x.size : Int) > (F : Int) := by omega
        have HOn : Hid (wr.ownsRow w.heap.size 9 1 u (cutM l i j (k + 1)).length ((cutM l i j (k + 1)).map Value.string)) := by rw [cutM_fore h1]; exact HO.out
        clear h1
        go_wp2_with fail
        go_roundg (l.length - (k + 1))
        case measure => omega
        case rel => exact ⟨k + 1, n + x.size, _, rfl, by go_num, by go_num, by omega, by omega, hb, hn2.out, HOn.out, HB.out⟩
      · by_cases h2 : k < j
        · have a1 : F ≤ n := by rw [HN.out, HFF.out]; exact szs_mono (by omega)
          have a2 : n + x.size ≤ T := by rw [hn2.out, HTT.out]; exact szs_mono (by omega)
          have b1 : (n : Int) ≥ (F : Int) := by omega
          have b2 : (n : Int) + (x.size : Int) ≤ (T : Int) := by omega
          have HM := Lib.hid (cutM_in (l := l) (by omega : i ≤ k) h2 hlt)
          generalize cutM l i j k = U at *
          clear h1 h2
          have b3 : U.length + 1 ≤ maxLen := by unfold maxLen; omega
          have b4 : (U.length + 1) * 16 ≤ 140737488355328 := by omega
          have b5 : w.heap.size ≤ (wr.alloc (.cells #[.string x] 9)).heap.size := by simp; omega
          have cn : ∀ (c : Nat) (y : Value), [Value.string x][c]? = some y → (wr.alloc (.cells #[.string x] 9)).cell? ((⟨wr.heap.size, 0, none⟩ : Addr).add c) = some y := World.news_of_block (heap_new wr (.cells #[.string x] 9))
          have CN := Lib.hid cn
          have on1 : ∀ y ∈ [Value.string x], y.oneCell' = true := by simp [Value.oneCell']
          clear cn
          go_wp2_with (at_builtin; refine wpList_append_own _ rfl (.tmp 33) (.tmp 38) 34 rfl w.heap.size 9 i0 (.string ⟨#[]⟩) 1 16 Tryz.underlying34 hi0 hz0 hz1 hz2 rfl (by decide) _ _ _ rfl (HO.out.alloc _) ⟨wr.heap.size, 0, none⟩ 1 1 [.string x] rfl rfl CN.out on1 b3 b4 b5 ?_)
          intro v' w3 hown' hgrow _
          have OA := Lib.hid hown'
          have BA := Lib.hid ((HB.out.alloc hww (.cells #[.string x] 9)).grown hgrow b5 (fun c hc => (HO.out.lt c hc).1))
          clear hown' hgrow b3 b4 b5 on1 CN
          have HOn : Hid (w3.ownsRow w.heap.size 9 1 v' (cutM l i j (k + 1)).length ((cutM l i j (k + 1)).map Value.string)) := by
            rw [HM.out, ← HX.out, List.map_append, List.length_append]; exact OA.out
          go_wp2_with fail
          go_roundg (l.length - (k + 1))
          case measure => omega
          case rel => exact ⟨k + 1, n + x.size, _, rfl, by go_num, by go_num, by omega, by omega, hb, hn2.out, HOn.out, BA.out⟩
        · have a1 : T ≤ n := by rw [HN.out, HTT.out]; exact szs_mono (by omega)
          have a3 : F ≤ T := by rw [HTT.out, HFF.out]; exact szs_mono hij
          have b1 : (n : Int) ≥ (F : Int) := by omega
          have b2 : ¬ (n : Int) + (x.size : Int) ≤ (T : Int) := by omega
          have b3 : ¬ (n : Int) < (T : Int) := by omega
          have HOn : Hid (wr.ownsRow w.heap.size 9 1 u (cutM l i j (k + 1)).length ((cutM l i j (k + 1)).map Value.string)) := by rw [cutM_hind (by omega)]; exact HO.out
          clear h1 h2
          go_wp2_with fail
          go_roundg (l.length - (k + 1))
          case measure => omega
          case rel => exact ⟨k + 1, n + x.size, _, rfl, by go_num, by go_num, by omega, by omega, hb, hn2.out, HOn.out, HB.out⟩
    · obtain rfl : k = l.length := by omega
      have hO := HO.out
      rw [show cutM l i j l.length = (l.take j).drop i by unfold cutM; rw [Nat.min_eq_right hj]] at hO
      have HOf := Lib.hid hO
      have hnl : ¬ (l.length : Int) < (l.length : Int) := by omega
      clear hO HO
      go_wp2_with fail
      go_ret2
      exact ⟨_, rfl, HOf.out, HB.out⟩
end Go.Proofs.YthbmnnnlkgbieaaGreatDoor
