/- Plain mathematics: edits behind edits, as pieces. -/
import Derived.Test.YtendbkbjmibchaaIV
namespace Go.Proofs.Ytendbkbjmibchaa
open Go.RowKit

/-- How long a piece is. -/
def plen (p : Pc) : Int := if p.x.size = 0 then p.t - p.f else p.x.size
def hd (p : Pc) (k : Int) : Pc := if p.x.size = 0 then ⟨p.f, p.f + k, ⟨#[]⟩⟩ else ⟨0, 0, p.x.extract 0 k.toNat⟩
def tl (p : Pc) (k : Int) : Pc := if p.x.size = 0 then ⟨p.f + k, p.t, ⟨#[]⟩⟩ else ⟨0, 0, p.x.extract k.toNat p.x.size⟩
/-- The pieces of the first k bytes; and those behind them. -/
def ps1 : List Pc → Int → List Pc
  | [], _ => []
  | p :: r, k => if k ≤ 0 then [] else if plen p ≤ k then p :: ps1 r (k - plen p) else [hd p k]
def ps2 : List Pc → Int → List Pc
  | [], _ => []
  | p :: r, k => if k ≤ 0 then p :: r else if plen p ≤ k then ps2 r (k - plen p) else tl p k :: r
/-- The pieces behind edits of pieces. -/
def both : List Pc → Int → List Ed → List Pc
  | q, _, [] => q
  | q, a, e :: r => ps1 q (e.f - a) ++ tx_ e.x ++ both (ps2 (ps2 q (e.f - a)) (e.t - e.f)) e.t r

/-- The pieces that are left lie in order, from lo on, up to n; none is empty. -/
def Ord (n : Int) : Int → List Pc → Prop
  | lo, [] => lo ≤ n
  | lo, p :: r => if p.x.size = 0 then lo ≤ p.f ∧ p.f < p.t ∧ Ord n p.t r else Ord n lo r
theorem ord_left {n lo : Int} {p : Pc} {r : List Pc} (hx : p.x.size = 0) (h : lo ≤ p.f ∧ p.f < p.t ∧ Ord n p.t r) : Ord n lo (p :: r) := by unfold Ord; rw [if_pos hx]; exact h
theorem ord_right {n lo : Int} {p : Pc} {r : List Pc} (hx : p.x.size ≠ 0) (h : Ord n lo r) : Ord n lo (p :: r) := by unfold Ord; rw [if_neg hx]; exact h
theorem Ord.le {n : Int} : ∀ {l : List Pc} {lo : Int}, Ord n lo l → lo ≤ n
  | [], _, h => h
  | p :: r, lo, h => by
    unfold Ord at h
    split at h
    · have := h.2.2.le; omega
    · exact h.le
theorem Ord.mono {n : Int} : ∀ {l : List Pc} {lo lo' : Int}, Ord n lo l → lo' ≤ lo → Ord n lo' l
  | [], _, _, h, hl => by unfold Ord at *; omega
  | p :: r, lo, lo', h, hl => by
    unfold Ord at *
    split at h
    · rename_i hx; rw [if_pos hx]; exact ⟨by omega, h.2⟩
    · rename_i hx; rw [if_neg hx]; exact h.mono hl
theorem hd_put {p : Pc} {k : Int} (hx : p.x.size ≠ 0) (h0 : 0 < k) (h1 : k < plen p) : (hd p k).x.size = k.toNat ∧ (tl p k).x.size = p.x.size - k.toNat ∧ 0 < k.toNat ∧ k.toNat < p.x.size := by
  unfold plen at h1
  rw [if_neg hx] at h1
  unfold hd tl
  rw [if_neg hx, if_neg hx]
  simp only [ByteArray.size_extract]
  omega

theorem ord1 {n : Int} {R : List Pc} : ∀ {l : List Pc} {lo k : Int}, Ord n lo l → (∀ m, Ord n m (ps2 l k) → Ord n m R) → Ord n lo (ps1 l k ++ R)
  | [], lo, k, h, hR => by unfold ps1; exact hR lo h
  | p :: r, lo, k, h, hR => by
    unfold ps1
    unfold ps2 at hR
    split
    · rename_i hk; rw [if_pos hk] at hR; exact hR lo h
    · rename_i hk
      rw [if_neg hk] at hR
      split
      · rename_i hp
        rw [if_pos hp] at hR
        unfold Ord at h
        rw [List.cons_append]
        unfold Ord
        split at h
        · rename_i hx; rw [if_pos hx]; exact ⟨h.1, h.2.1, ord1 h.2.2 hR⟩
        · rename_i hx; rw [if_neg hx]; exact ord1 h hR
      · rename_i hp
        rw [if_neg hp] at hR
        rw [List.cons_append, List.nil_append]
        unfold Ord at h
        by_cases hx : p.x.size = 0
        · rw [if_pos hx] at h
          have hpl : plen p = p.t - p.f := by unfold plen; rw [if_pos hx]
          obtain ⟨q1, q2, q3⟩ := h
          have e1 : hd p k = ⟨p.f, p.f + k, ⟨#[]⟩⟩ := by unfold hd; rw [if_pos hx]
          have e2 : tl p k = ⟨p.f + k, p.t, ⟨#[]⟩⟩ := by unfold tl; rw [if_pos hx]
          rw [e1]
          refine ord_left rfl ⟨q1, by simp only; omega, hR _ ?_⟩
          rw [e2]
          exact ord_left rfl ⟨Int.le_refl _, by simp only; omega, q3⟩
        · rw [if_neg hx] at h
          obtain ⟨g1, g2, g3, g4⟩ := hd_put hx (by omega : (0 : Int) < k) (by omega)
          exact ord_right (by omega) (hR _ (ord_right (by omega) h))
theorem ord2 {n : Int} : ∀ {l : List Pc} {lo k : Int}, Ord n lo l → Ord n lo (ps2 l k)
  | [], lo, k, h => by unfold ps2; exact h
  | p :: r, lo, k, h => by
    unfold ps2
    split
    · exact h
    · rename_i hk
      split
      · unfold Ord at h
        split at h
        · exact (ord2 h.2.2).mono (by omega)
        · exact ord2 h
      · rename_i hp
        unfold Ord at h
        by_cases hx : p.x.size = 0
        · rw [if_pos hx] at h
          have hpl : plen p = p.t - p.f := by unfold plen; rw [if_pos hx]
          obtain ⟨q1, q2, q3⟩ := h
          have e2 : tl p k = ⟨p.f + k, p.t, ⟨#[]⟩⟩ := by unfold tl; rw [if_pos hx]
          rw [e2]
          exact ord_left rfl ⟨by simp only; omega, by simp only; omega, q3⟩
        · rw [if_neg hx] at h
          obtain ⟨g1, g2, g3, g4⟩ := hd_put hx (by omega : (0 : Int) < k) (by omega)
          exact ord_right (by omega) h
theorem ord_tx {n : Int} {x : ByteArray} {R : List Pc} {lo : Int} (h : Ord n lo R) : Ord n lo (tx_ x ++ R) := by
  unfold tx_
  split
  · exact h
  · rename_i hx; rw [List.cons_append, List.nil_append]; unfold Ord; rw [if_neg hx]; exact h
theorem ord_both {n : Int} : ∀ {b : List Ed} {q : List Pc} {a lo : Int}, Ord n lo q → Ord n lo (both q a b)
  | [], q, a, lo, h => h
  | e :: r, q, a, lo, h => by
    unfold both
    rw [List.append_assoc]
    exact ord1 h (fun m hm => ord_tx (ord_both (ord2 hm)))
theorem ord_lv {n a b : Int} {R : List Pc} (h : a ≤ b) (hR : Ord n b R) : Ord n a (lv a b ++ R) := by
  unfold lv
  split
  · rw [List.cons_append, List.nil_append]; exact ord_left rfl ⟨Int.le_refl _, by simp only; omega, hR⟩
  · rw [List.nil_append]; exact hR.mono h
theorem ord_pcs (n : Int) : ∀ (es : List Ed) (p : Option Int) (a : Int), 0 ≤ a → a ≤ n → ((p = none ∧ a = 0) ∨ p = some a) → sndGo n p es = 0 → Ord n a (pcs n a es)
  | [], p, a, h0, h1, _, _ => by
    rw [pcs, ← List.append_nil (lv a n)]
    exact ord_lv h1 (by unfold Ord; omega)
  | e :: r, p, a, h0, h1, hp, hs => by
    obtain ⟨g0, g1, g2, g3, g4, g5⟩ := sndGo_cons hs
    have hae : a ≤ e.f := near_pos (hp.imp (fun h => ⟨h.1, h.2, g0⟩) id) g4
    rw [pcs, List.append_assoc]
    exact ord_lv hae (ord_tx ((ord_pcs n r (some e.t) e.t (by omega) g2 (.inr rfl) g5).mono g1))

/-- How many pieces are left ones. -/
def lefts : List Pc → Nat
  | [] => 0
  | p :: r => (if p.x.size = 0 then 1 else 0) + lefts r
theorem lefts_app (a b : List Pc) : lefts (a ++ b) = lefts a + lefts b := by
  induction a with
  | nil => simp [lefts]
  | cons p r ih => simp [lefts, ih]; omega
theorem lefts_tx (x : ByteArray) : lefts (tx_ x) = 0 := by
  unfold tx_
  split
  · rfl
  · rename_i hx; simp [lefts, hx]
theorem lefts_lv (a b : Int) : lefts (lv a b) ≤ 1 := by
  unfold lv
  split
  · unfold lefts lefts
    split <;> omega
  · unfold lefts; omega
theorem lefts_pcs (n : Int) : ∀ (es : List Ed) (a : Int), lefts (pcs n a es) ≤ es.length + 1
  | [], a => by rw [pcs]; have := lefts_lv a n; simp; omega
  | e :: r, a => by
    rw [pcs, lefts_app, lefts_app, lefts_tx]
    have := lefts_lv a e.f
    have := lefts_pcs n r e.t
    simp; omega
theorem lefts_tl {p : Pc} {k : Int} (h0 : 0 < k) (h1 : k < plen p) : (if (tl p k).x.size = 0 then 1 else 0) = (if p.x.size = 0 then 1 else 0) := by
  by_cases hx : p.x.size = 0
  · rw [if_pos hx]; unfold tl; rw [if_pos hx]; rfl
  · obtain ⟨g1, g2, g3, g4⟩ := hd_put hx h0 h1
    rw [if_neg hx, if_neg (by omega)]
theorem lefts2 : ∀ (l : List Pc) (k : Int), lefts (ps2 l k) ≤ lefts l ∧ lefts (ps1 l k) + lefts (ps2 l k) ≤ lefts l + 1
  | [], k => by simp [ps1, ps2, lefts]
  | p :: r, k => by
    unfold ps1 ps2
    split
    · simp [lefts]
    · rename_i hk
      split
      · have := lefts2 r (k - plen p)
        simp only [lefts]; omega
      · rename_i hp
        have := lefts_tl (p := p) (k := k) (by omega) (by omega)
        simp only [lefts, this]
        have : (if (hd p k).x.size = 0 then 1 else 0) ≤ 1 := by split <;> omega
        omega
theorem lefts_both : ∀ (b : List Ed) (q : List Pc) (a : Int), lefts (both q a b) ≤ lefts q + b.length
  | [], q, a => by simp [both]
  | e :: r, q, a => by
    unfold both
    rw [lefts_app, lefts_app, lefts_tx]
    have h1 := lefts2 q (e.f - a)
    have h2 := lefts2 (ps2 q (e.f - a)) (e.t - e.f)
    have h3 := lefts_both r (ps2 (ps2 q (e.f - a)) (e.t - e.f)) e.t
    simp; omega

/-- The edits that pieces come from: done: up to where the text has been told; put: what has been put in since. -/
def cmps (n : Int) : List Pc → Int → ByteArray → List Ed
  | [], d, u => if d < n ∨ u.size ≠ 0 then [⟨d, n, u⟩] else []
  | p :: r, d, u => if p.x.size = 0 then (if d < p.f ∨ u.size ≠ 0 then [⟨d, p.f, u⟩] else []) ++ cmps n r p.t ⟨#[]⟩ else cmps n r d (u ++ p.x)

theorem cmps_snd (n : Int) : ∀ (l : List Pc) (d : Int) (u : ByteArray) (p : Option Int), 0 ≤ d → Ord n d l → (∀ q, p = some q → q < d) → sndGo n p (cmps n l d u) = 0
  | [], d, u, p, h0, h, hp => by
    have h1 : d ≤ n := h
    unfold cmps
    split
    · rename_i hc
      rw [sndGo, if_neg (by simp only; omega), if_neg (by simp only; omega), if_neg ?_]
      · rfl
      · cases p with
        | none => simp [near]
        | some q => have := hp q rfl; simp [near]; omega
    · rfl
  | y :: r, d, u, p, h0, h, hp => by
    unfold cmps
    unfold Ord at h
    split
    · rename_i hx
      rw [if_pos hx] at h
      have hn := h.2.2.le
      have hq1 := h.1
      have hq2 := h.2.1
      split
      · rename_i hc
        rw [List.cons_append, List.nil_append, sndGo, if_neg (by simp only; omega), if_neg (by simp only; omega), if_neg ?_]
        · exact cmps_snd n r y.t _ _ (by omega) h.2.2 (fun q hq => by simp at hq; omega)
        · cases p with
          | none => simp [near]
          | some q => have := hp q rfl; simp [near]; omega
      · rw [List.nil_append]
        exact cmps_snd n r y.t _ _ (by omega) h.2.2 (fun q hq => by have := hp q hq; omega)
    · rename_i hx
      rw [if_neg hx] at h
      exact cmps_snd n r d _ _ h0 h hp
theorem cmps_len (n : Int) : ∀ (l : List Pc) (d : Int) (u : ByteArray), (cmps n l d u).length ≤ lefts l + 1
  | [], d, u => by unfold cmps; split <;> simp [lefts]
  | y :: r, d, u => by
    unfold cmps
    split
    · rename_i hx
      have := cmps_len n r y.t ⟨#[]⟩
      rw [List.length_append]
      simp only [lefts, hx, if_true]
      split <;> simp <;> omega
    · rename_i hx
      have := cmps_len n r d (u ++ y.x)
      simp only [lefts, hx, if_false]
      omega
theorem lv_nil (s : ByteArray) (a b : Int) (h : b ≤ a) : pbs s (lv a b) = [] := by unfold lv; rw [if_neg (by omega)]; rfl
theorem tx_all (s x : ByteArray) : pbs s (tx_ x) = x.data.toList := tx_bytes s x

theorem cmps_bytes (s : ByteArray) : ∀ (l : List Pc) (a d : Int) (u : ByteArray), 0 ≤ a → a ≤ d → Ord s.size d l →
    pbs s (pcs s.size a (cmps s.size l d u)) = pbs s (lv a d) ++ u.data.toList ++ pbs s l
  | [], a, d, u, h0, h1, h => by
    have hn : d ≤ s.size := h
    unfold cmps
    split
    · rw [pcs, pcs, pbs_append, pbs_append, tx_all, lv_nil s s.size s.size (Int.le_refl _)]; rfl
    · rename_i hc
      have h2 : d = s.size := by omega
      have h3 : u.data.toList = [] := List.eq_nil_of_length_eq_zero (by rw [Array.length_toList]; have : u.data.size = u.size := rfl; omega)
      rw [pcs, h2, h3]; simp [pbs]
  | y :: r, a, d, u, h0, h1, h => by
    unfold cmps
    unfold Ord at h
    split
    · rename_i hx
      rw [if_pos hx] at h
      have hn := h.2.2.le
      have hq1 := h.1
      have hq2 := h.2.1
      have hpb : pb s y = pbs s (lv y.f y.t) := by
        rw [lvb s y.f y.t (by omega) (by omega)]; unfold pb; rw [if_pos hx]
      split
      · rw [List.cons_append, List.nil_append, pcs, pbs_append, pbs_append, tx_all, cmps_bytes s r y.f y.t ⟨#[]⟩ (by omega) (by omega) h.2.2, pbs, hpb]
        simp [List.append_assoc]
      · rename_i hc
        have h2 : d = y.f := by omega
        have h3 : u.data.toList = [] := List.eq_nil_of_length_eq_zero (by rw [Array.length_toList]; have : u.data.size = u.size := rfl; omega)
        rw [List.nil_append, cmps_bytes s r a y.t ⟨#[]⟩ (by omega) (by omega) h.2.2, pbs, hpb, h3, h2, lvb s a y.t (by omega) (by omega), lvb s a y.f (by omega) (by omega), lvb s y.f y.t (by omega) (by omega)]
        have e3 : (s.data.toList.drop y.f.toNat) = (s.data.toList.drop a.toNat).drop (y.f.toNat - a.toNat) := by rw [List.drop_drop]; congr 1; omega
        rw [e3, List.append_nil, ← List.append_assoc]
        have e4 : y.t.toNat - a.toNat = (y.f.toNat - a.toNat) + (y.t.toNat - y.f.toNat) := by omega
        rw [e4, List.take_add]
        simp
    · rename_i hx
      rw [if_neg hx] at h
      rw [cmps_bytes s r a d _ h0 h1 h, cat_bytes, pbs]
      unfold pb
      rw [if_neg hx]
      simp [List.append_assoc]

theorem pb_left {s : ByteArray} {p : Pc} (hx : p.x.size = 0) : pb s p = (s.data.toList.drop p.f.toNat).take (p.t.toNat - p.f.toNat) := by unfold pb; rw [if_pos hx]
theorem pb_right {s : ByteArray} {p : Pc} (hx : p.x.size ≠ 0) : pb s p = p.x.data.toList := by unfold pb; rw [if_neg hx]
theorem pb_len {s : ByteArray} {p : Pc} {lo : Int} {r : List Pc} (h0 : 0 ≤ lo) (h : Ord s.size lo (p :: r)) : ((pb s p).length : Int) = plen p ∧ 0 ≤ plen p := by
  unfold Ord at h
  unfold pb plen
  split at h
  · rename_i hx
    have := h.2.2.le
    have hq1 := h.1
    have hq2 := h.2.1
    rw [if_pos hx, if_pos hx, List.length_take, List.length_drop, size_list]; omega
  · rename_i hx
    rw [if_neg hx, if_neg hx, size_list]; omega
theorem ps_bytes (s : ByteArray) : ∀ (l : List Pc) (lo k : Int), 0 ≤ lo → Ord s.size lo l → pbs s (ps1 l k) = (pbs s l).take k.toNat ∧ pbs s (ps2 l k) = (pbs s l).drop k.toNat
  | [], lo, k, h0, h => by simp [ps1, ps2, pbs]
  | p :: r, lo, k, h0, h => by
    obtain ⟨g1, g2⟩ := pb_len h0 h
    have hr : ∃ lo', 0 ≤ lo' ∧ Ord s.size lo' r := by
      unfold Ord at h
      split at h
      · exact ⟨p.t, by have := h.1; have := h.2.1; omega, h.2.2⟩
      · exact ⟨lo, h0, h⟩
    obtain ⟨lo', hl0, hl⟩ := hr
    unfold ps1 ps2
    split
    · rename_i hk
      have : k.toNat = 0 := by omega
      rw [this]; simp [pbs]
    · rename_i hk
      split
      · rename_i hp
        obtain ⟨i1, i2⟩ := ps_bytes s r lo' (k - plen p) hl0 hl
        rw [pbs, pbs, i1, i2, List.take_append, List.drop_append, List.take_of_length_le (l := pb s p) (by omega), show (pb s p).drop k.toNat = [] from List.drop_eq_nil_of_le (by omega), List.nil_append]
        have : (k - plen p).toNat = k.toNat - (pb s p).length := by omega
        rw [this]
        exact ⟨rfl, rfl⟩
      · rename_i hp
        show pb s (hd p k) ++ pbs s [] = (pb s p ++ pbs s r).take k.toNat ∧ pb s (tl p k) ++ pbs s r = (pb s p ++ pbs s r).drop k.toNat
        rw [List.take_append_of_le_length (by omega), List.drop_append_of_le_length (by omega)]
        have : pb s (hd p k) = (pb s p).take k.toNat ∧ pb s (tl p k) = (pb s p).drop k.toNat := by
          by_cases hx : p.x.size = 0
          · have hpl : plen p = p.t - p.f := by unfold plen; rw [if_pos hx]
            unfold Ord at h
            rw [if_pos hx] at h
            obtain ⟨q1, q2, q3⟩ := h
            have e1 : hd p k = ⟨p.f, p.f + k, ⟨#[]⟩⟩ := by unfold hd; rw [if_pos hx]
            have e2 : tl p k = ⟨p.f + k, p.t, ⟨#[]⟩⟩ := by unfold tl; rw [if_pos hx]
            rw [e1, e2, pb_left (p := ⟨p.f, p.f + k, ⟨#[]⟩⟩) rfl, pb_left (p := ⟨p.f + k, p.t, ⟨#[]⟩⟩) rfl, pb_left hx]
            simp only
            rw [List.take_take, List.drop_take, List.drop_drop]
            constructor
            · congr 1; omega
            · congr 1
              · omega
              · congr 1; omega
          · obtain ⟨g1, g2, g3, g4⟩ := hd_put hx (by omega : (0:Int) < k) (by omega)
            rw [pb_right (p := hd p k) (by omega), pb_right (p := tl p k) (by omega), pb_right hx]
            unfold hd tl
            rw [if_neg hx, if_neg hx, cut_list, cut_list]
            constructor
            · simp
            · rw [List.take_of_length_le (by rw [List.length_drop, size_list]; omega)]
        rw [this.1, this.2]
        simp [pbs]

theorem both_bytes (s X : ByteArray) : ∀ (b : List Ed) (q : List Pc) (a lo : Int) (p : Option Int), 0 ≤ lo → Ord s.size lo q → 0 ≤ a → a ≤ X.size → ((p = none ∧ a = 0) ∨ p = some a) → sndGo X.size p b = 0 →
    pbs s q = X.data.toList.drop a.toNat → pbs s (both q a b) = pbs X (pcs X.size a b)
  | [], q, a, lo, p, hl, h, h0, h1, hp, hs, hq => by
    rw [both, pcs, hq, lvb X a X.size h0 h1, List.take_of_length_le (by rw [List.length_drop, size_list]; omega)]
  | e :: r, q, a, lo, p, hl, h, h0, h1, hp, hs, hq => by
    obtain ⟨g0, g1, g2, g3, g4, g5⟩ := sndGo_cons hs
    have hae : a ≤ e.f := near_pos (hp.imp (fun h => ⟨h.1, h.2, g0⟩) id) g4
    obtain ⟨b1, b2⟩ := ps_bytes s q lo (e.f - a) hl h
    obtain ⟨b3, b4⟩ := ps_bytes s (ps2 q (e.f - a)) lo (e.t - e.f) hl (ord2 h)
    rw [both, pbs_append, pbs_append, tx_all, pcs, pbs_append, pbs_append, tx_all, b1, hq, lvb X a e.f h0 hae]
    rw [both_bytes s X r _ e.t lo (some e.t) hl (ord2 (ord2 h)) (by omega) g2 (.inr rfl) g5]
    · rw [show (e.f - a).toNat = e.f.toNat - a.toNat by omega]
    · rw [b4, b2, hq, List.drop_drop, List.drop_drop]
      congr 1; omega

/-- What Compose answers: sound edits, which do both. -/
def cmpd (a b : List Ed) (n : Int) : List Ed := cmps n (both (pcs n 0 a) 0 b) 0 ⟨#[]⟩
theorem cmpd_ok (s : ByteArray) (a b : List Ed) (ha : snd a s.size = 0) (hb : snd b (apd s a).length = 0) (hl : a.length + b.length ≤ 510) :
    snd (cmpd a b s.size) s.size = 0 ∧ apd s (cmpd a b s.size) = apd ⟨(apd s a).toArray⟩ b := by
  have ho : Ord s.size 0 (both (pcs s.size 0 a) 0 b) := ord_both (ord_pcs s.size a none 0 (by omega) (by omega) (.inl ⟨rfl, rfl⟩) (snd_go ha).2)
  have h1 : lefts (both (pcs s.size 0 a) 0 b) ≤ a.length + 1 + b.length := by
    have := lefts_both b (pcs s.size 0 a) 0
    have := lefts_pcs s.size a 0
    omega
  have h2 : (cmpd a b s.size).length ≤ 512 := by
    have := cmps_len s.size (both (pcs s.size 0 a) 0 b) 0 ⟨#[]⟩
    unfold cmpd; omega
  constructor
  · unfold snd
    rw [if_neg (by omega)]
    exact cmps_snd s.size _ 0 _ none (by omega) ho (by simp)
  · unfold apd cmpd
    rw [cmps_bytes s _ 0 0 _ (by omega) (by omega) ho, lv_nil s 0 0 (by omega)]
    have := both_bytes s ⟨(apd s a).toArray⟩ b (pcs s.size 0 a) 0 0 none (by omega) (ord_pcs s.size a none 0 (by omega) (by omega) (.inl ⟨rfl, rfl⟩) (snd_go ha).2) (by omega) (by omega) (.inl ⟨rfl, rfl⟩) (snd_go hb).2 (by simp [apd])
    rw [this]
    simp [apd]
end Go.Proofs.Ytendbkbjmibchaa
