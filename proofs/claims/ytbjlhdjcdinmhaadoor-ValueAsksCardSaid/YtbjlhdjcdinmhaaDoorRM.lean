/- Mathematics: values that may be, whose names are names, have unlike texts. -/
import Derived.Test.YtbjlhdjcdinmhaaDoorQX
import Derived.Test.YtbjlhdjcdinmhaaDoorQV
import Derived.Test.YtbjlhdjcdinmhaaDoorRK
namespace Go.Proofs.YtbjlhdjcdinmhaaDoor
namespace Vm
mutual
/-- Are all names names? -/
def Vl.nmd : Vl → Bool
  | .mk _ ns ps => ns.all (fun n => rnameL n.data.toList) && nmdL ps
def nmdL : List Vl → Bool
  | [] => true
  | p :: ps => p.nmd && nmdL ps
end
theorem nmdL_all : ∀ ps : List Vl, nmdL ps = ps.all Vl.nmd
  | [] => rfl
  | p :: ps => by rw [nmdL, nmdL_all ps, List.all_cons]
/-- What may stand behind a value: no digit. -/
def stp (r : List UInt8) : Prop := ∀ b, r.head? = some b → digN b.toNat = false
theorem split_at {p : UInt8 → Bool} {a a' r s : List UInt8} (ha : ∀ b ∈ a, p b = true) (ha' : ∀ b ∈ a', p b = true) (hr : ∀ b, r.head? = some b → p b = false) (hs : ∀ b, s.head? = some b → p b = false) (e : a ++ r = a' ++ s) : a = a' ∧ r = s := by
  induction a generalizing a' with
  | nil =>
    cases a' with
    | nil => exact ⟨rfl, e⟩
    | cons b a' =>
      have h1 := hr b (by rw [List.nil_append] at e; rw [e]; rfl)
      rw [ha' b List.mem_cons_self] at h1
      cases h1
  | cons c a ih =>
    cases a' with
    | nil =>
      have h1 := hs c (by rw [List.nil_append] at e; rw [← e]; rfl)
      rw [ha c List.mem_cons_self] at h1
      cases h1
    | cons b a' =>
      rw [List.cons_append, List.cons_append, List.cons.injEq] at e
      have := ih (fun b hb => ha b (List.mem_cons_of_mem _ hb)) (fun b hb => ha' b (List.mem_cons_of_mem _ hb)) e.2
      exact ⟨by rw [e.1, this.1], this.2⟩
def dgB (b : UInt8) : Bool := digN b.toNat
theorem dig_of {u : Nat} (h : u < 10) : dgB (UInt8.ofNat (48 + u)) = true := by
  have e : (UInt8.ofNat (48 + u)).toNat = 48 + u := by rw [UInt8.toNat_ofNat']; omega
  unfold dgB digN
  rw [e]
  simp
  omega
theorem dec_dig : ∀ (u : Nat), ∀ b ∈ Lib.decDigits u, dgB b = true := by
  intro u
  induction u using Nat.strongRecOn with
  | ind u ih =>
    rw [Lib.decDigits]
    split
    · intro b hb
      rw [List.mem_singleton.1 hb]
      exact dig_of (by assumption)
    · intro b hb
      rcases List.mem_append.1 hb with hb | hb
      · exact ih (u / 10) (by omega) b hb
      · rw [List.mem_singleton.1 hb]
        exact dig_of (by omega)
def val (l : List UInt8) : Nat := l.foldl (fun a b => a * 10 + (b.toNat - 48)) 0
theorem val_dec : ∀ (u : Nat), val (Lib.decDigits u) = u := by
  intro u
  induction u using Nat.strongRecOn with
  | ind u ih =>
    have e : ∀ k, k < 10 → (UInt8.ofNat (48 + k)).toNat - 48 = k := fun k hk => by rw [UInt8.toNat_ofNat']; omega
    rw [Lib.decDigits]
    split
    · rename_i h
      simp only [val, List.foldl_cons, List.foldl_nil, e u h]
      omega
    · rename_i h
      have := ih (u / 10) (by omega)
      unfold val at this ⊢
      rw [List.foldl_append, this]
      simp only [List.foldl_cons, List.foldl_nil, e (u % 10) (by omega)]
      omega
theorem dec_ne (u : Nat) : Lib.decDigits u ≠ [] := by
  rw [Lib.decDigits]
  split <;> simp
/-- The first byte of a numeral. -/
theorem itoa_head (n : Int) : ∃ b t, Lib.itoa n = b :: t ∧ (b = 45 ∨ dgB b = true) := by
  unfold Lib.itoa
  split
  · exact ⟨45, _, rfl, .inl rfl⟩
  · cases h : Lib.decDigits n.toNat with
    | nil => exact absurd h (dec_ne _)
    | cons b t => exact ⟨b, t, rfl, .inr (dec_dig n.toNat b (by rw [h]; exact List.mem_cons_self))⟩
theorem itoa_inj {n m : Int} {r s : List UInt8} (hr : stp r) (hs : stp s) (e : Lib.itoa n ++ r = Lib.itoa m ++ s) : n = m ∧ r = s := by
  have h45 : dgB 45 = false := by decide
  unfold Lib.itoa at e
  have key : ∀ u v : Nat, Lib.decDigits u ++ r = Lib.decDigits v ++ s → u = v ∧ r = s := fun u v e => by
    have := split_at (p := dgB) (dec_dig u) (dec_dig v) hr hs e
    exact ⟨by rw [← val_dec u, ← val_dec v, this.1], this.2⟩
  have no : ∀ (u : Nat) (x y : List UInt8), 45 :: x ≠ Lib.decDigits u ++ y := fun u x y e => by
    cases h : Lib.decDigits u with
    | nil => exact absurd h (dec_ne _)
    | cons b t =>
      rw [h, List.cons_append, List.cons.injEq] at e
      have := dec_dig u b (by rw [h]; exact List.mem_cons_self)
      rw [← e.1, h45] at this
      cases this
  split at e
  · split at e
    · rw [List.cons_append, List.cons_append, List.cons.injEq] at e
      have := key _ _ e.2
      exact ⟨by omega, this.2⟩
    · rw [List.cons_append] at e
      exact absurd e (no _ _ _)
  · split at e
    · rw [List.cons_append] at e
      exact absurd e.symm (no _ _ _)
    · have := key _ _ e
      exact ⟨by omega, this.2⟩
theorem sb_cases {b : UInt8} (h : Qt.sb b = true) : b = 10 ∨ b = 9 ∨ b = 34 ∨ b = 92 := by
  unfold Qt.sb at h
  simp only [Bool.or_eq_true, beq_iff_eq] at h
  rcases h with ((h | h) | h) | h
  · exact .inl h
  · exact .inr (.inl h)
  · exact .inr (.inr (.inl h))
  · exact .inr (.inr (.inr h))
theorem sg_inj {b c : UInt8} (hb : Qt.sb b = true) (hc : Qt.sb c = true) (e : Qt.sg b = Qt.sg c) : b = c := by
  rcases sb_cases hb with rfl | rfl | rfl | rfl <;> rcases sb_cases hc with rfl | rfl | rfl | rfl <;> first | rfl | (exfalso; revert e; decide)
theorem quo_inj : ∀ {l m r s : List UInt8}, l.flatMap Qt.esc ++ 34 :: r = m.flatMap Qt.esc ++ 34 :: s → l = m ∧ r = s := by
  have head : ∀ (b : UInt8) (x y : List UInt8), 34 :: x ≠ Qt.esc b ++ y := fun b x y e => by
    unfold Qt.esc at e
    split at e
    · simp at e
    · rename_i h
      rw [List.singleton_append, List.cons.injEq] at e
      rw [← e.1] at h
      exact h (by decide)
  intro l
  induction l with
  | nil =>
    intro m r s e
    cases m with
    | nil =>
      simp only [List.flatMap_nil, List.nil_append, List.cons.injEq, true_and] at e
      exact ⟨rfl, e⟩
    | cons c m =>
      rw [List.flatMap_nil, List.nil_append, List.flatMap_cons, List.append_assoc] at e
      exact absurd e (head _ _ _)
  | cons b l ih =>
    intro m r s e
    cases m with
    | nil =>
      rw [List.flatMap_nil, List.nil_append, List.flatMap_cons, List.append_assoc] at e
      exact absurd e.symm (head _ _ _)
    | cons c m =>
      rw [List.flatMap_cons, List.flatMap_cons, List.append_assoc, List.append_assoc] at e
      have key : b = c ∧ l.flatMap Qt.esc ++ 34 :: r = m.flatMap Qt.esc ++ 34 :: s := by
        unfold Qt.esc at e
        cases hb : Qt.sb b <;> cases hc : Qt.sb c <;> simp only [hb, hc, if_true, Bool.false_eq_true, if_false] at e
        · simp only [List.cons_append, List.nil_append, List.cons.injEq] at e
          exact e
        · simp only [List.cons_append, List.nil_append, List.cons.injEq] at e
          rw [e.1] at hb
          exact absurd hb (by decide)
        · simp only [List.cons_append, List.nil_append, List.cons.injEq] at e
          rw [← e.1] at hc
          exact absurd hc (by decide)
        · simp only [List.cons_append, List.nil_append, List.cons.injEq, true_and] at e
          exact ⟨sg_inj hb hc e.1, e.2⟩
      have := ih key.2
      exact ⟨by rw [key.1, this.1], this.2⟩
theorem stp44 (r : List UInt8) : stp (44 :: r) := fun b h => by simp only [List.head?_cons, Option.some.injEq] at h; subst h; decide
theorem stp125 (r : List UInt8) : stp (125 :: r) := fun b h => by simp only [List.head?_cons, Option.some.injEq] at h; subst h; decide
def wdB (b : UInt8) : Bool := wdN b.toNat
theorem name_wd {n : ByteArray} (h : rnameL n.data.toList = true) : ∀ b ∈ n.data.toList, wdB b = true := by
  unfold rnameL allW at h
  rw [Bool.and_eq_true, List.all_eq_true] at h
  exact h.2
theorem ba_of {a b : ByteArray} (h : a.data.toList = b.data.toList) : a = b := by
  obtain ⟨⟨l⟩⟩ := a
  obtain ⟨⟨m⟩⟩ := b
  simp only at h
  rw [h]
theorem pieces_stp (k : Nat) (ns : List ByteArray) (ts : List (List UInt8)) (r : List UInt8) : stp (pieces (k + 1) ns ts ++ 125 :: r) := by
  cases ns with
  | nil => simp only [pieces, List.nil_append]; exact stp125 r
  | cons n ns =>
    cases ts with
    | nil => simp only [pieces, List.nil_append]; exact stp125 r
    | cons t ts =>
      rw [pieces, if_neg (by omega)]
      simp only [List.cons_append, List.append_assoc]
      exact stp44 _
theorem pieces_inj : ∀ {ns ms : List ByteArray} {ps qs : List Vl} {k : Nat} {r s : List UInt8}, ns.length = ps.length → ms.length = qs.length → (∀ n ∈ ns, rnameL n.data.toList = true) → (∀ n ∈ ms, rnameL n.data.toList = true) →
    (∀ p ∈ ps, ∀ q ∈ qs, ∀ r s, stp r → stp s → p.text ++ r = q.text ++ s → p = q ∧ r = s) → pieces k ns (textL ps) ++ 125 :: r = pieces k ms (textL qs) ++ 125 :: s → ns = ms ∧ ps = qs ∧ r = s := by
  have no : ∀ (k : Nat) (m : ByteArray) (ms : List ByteArray) (t : List UInt8) (ts : List (List UInt8)) (r s : List UInt8), rnameL m.data.toList = true → 125 :: r ≠ pieces k (m :: ms) (t :: ts) ++ 125 :: s := fun k m ms t ts r s hm e => by
    rw [pieces] at e
    by_cases hk : k = 0
    · rw [if_pos hk, List.nil_append] at e
      cases hd : m.data.toList with
      | nil => rw [hd] at e; simp at e
      | cons b l =>
        have := name_wd hm b (by rw [hd]; exact List.mem_cons_self)
        rw [hd] at e
        simp only [List.cons_append, List.cons.injEq] at e
        rw [← e.1] at this
        revert this
        decide
    · rw [if_neg hk] at e
      simp at e
  intro ns
  induction ns with
  | nil =>
    intro ms ps qs k r s h1 h2 h3 h4 h5 e
    obtain rfl : ps = [] := List.eq_nil_of_length_eq_zero h1.symm
    cases ms with
    | nil =>
      obtain rfl : qs = [] := List.eq_nil_of_length_eq_zero h2.symm
      simp only [pieces, List.nil_append, List.cons.injEq, true_and] at e
      exact ⟨rfl, rfl, e⟩
    | cons m ms =>
      cases qs with
      | nil => simp at h2
      | cons q qs =>
        exfalso
        rw [show pieces k [] (textL []) = [] by simp [pieces], List.nil_append, textL] at e
        exact no _ _ _ _ _ _ _ (h4 m List.mem_cons_self) e
  | cons n ns ih =>
    intro ms ps qs k r s h1 h2 h3 h4 h5 e
    cases ps with
    | nil => simp at h1
    | cons p ps =>
      cases ms with
      | nil =>
        obtain rfl : qs = [] := List.eq_nil_of_length_eq_zero h2.symm
        exfalso
        rw [show pieces k [] (textL []) = [] by simp [pieces], List.nil_append, textL] at e
        exact no _ _ _ _ _ _ _ (h3 n List.mem_cons_self) e.symm
      | cons m ms =>
        cases qs with
        | nil => simp at h2
        | cons q qs =>
          rw [textL, textL, pieces, pieces] at e
          simp only [List.append_assoc] at e
          have e := List.append_cancel_left e
          have hst : ∀ (x : List UInt8) b, ([58, 32] ++ x : List UInt8).head? = some b → wdB b = false := fun x b hb => by
            simp only [List.cons_append, List.head?_cons, Option.some.injEq] at hb
            subst hb
            decide
          have e1 := split_at (p := wdB) (name_wd (h3 n List.mem_cons_self)) (name_wd (h4 m List.mem_cons_self)) (hst _) (hst _) e
          have e2 := List.append_cancel_left e1.2
          have e3 := h5 p List.mem_cons_self q List.mem_cons_self _ _ (pieces_stp k ns (textL ps) r) (pieces_stp k ms (textL qs) s) e2
          have e4 := ih (by simpa using h1) (by simpa using h2) (fun n hn => h3 n (List.mem_cons_of_mem _ hn)) (fun n hn => h4 n (List.mem_cons_of_mem _ hn)) (fun p hp q hq => h5 p (List.mem_cons_of_mem _ hp) q (List.mem_cons_of_mem _ hq)) e3.2
          exact ⟨by rw [ba_of e1.1, e4.1], by rw [e3.1, e4.2.1], e4.2.2⟩
/-- No text begins another one, but for digits. -/
theorem text_inj : ∀ (v w : Vl), v.right = true → w.right = true → v.nmd = true → w.nmd = true → ∀ r s, stp r → stp s → v.text ++ r = w.text ++ s → v = w ∧ r = s := by
  refine Vl.ind fun k ns ps ih => ?_
  rintro ⟨k', ms, qs⟩ hv hw nv nw r s hr hs e
  have d45 : dgB 45 = false := by decide
  have d34 : dgB 34 = false := by decide
  have d102 : dgB 102 = false := by decide
  have d123 : dgB 123 = false := by decide
  have hpv : ∀ p ∈ ps, p.right = true := fun p hp => right_part hv hp
  have hpw : ∀ q ∈ qs, q.right = true := fun p hp => right_part hw hp
  rw [Vl.nmd, nmdL_all, Bool.and_eq_true, List.all_eq_true, List.all_eq_true] at nv nw
  have iv : ∀ (n : Int) (x y : List UInt8) (c : UInt8), c ≠ 45 → dgB c = false → Lib.itoa n ++ x ≠ c :: y := fun n x y c h1 h2 e => by
    obtain ⟨b, t, hb, hh⟩ := itoa_head n
    rw [hb, List.cons_append, List.cons.injEq] at e
    rw [e.1] at hh
    rcases hh with hh | hh
    · exact h1 hh
    · rw [h2] at hh; cases hh
  rw [Vl.text, Vl.text] at e
  obtain ⟨kd, kn, ks⟩ := k
  obtain ⟨kd', kn', ks'⟩ := k'
  rcases right_cases hv with ⟨h1, h2, rfl, rfl⟩ | ⟨h1, h2, rfl, rfl⟩ | ⟨h1, h2, h3, rfl, rfl⟩ | ⟨h1, h2, h3, h4, h5⟩ <;>
  rcases right_cases hw with ⟨g1, g2, rfl, rfl⟩ | ⟨g1, g2, rfl, rfl⟩ | ⟨g1, g2, g3, rfl, rfl⟩ | ⟨g1, g2, g3, g4, g5⟩ <;>
  simp only at h1 h2 g1 g2 <;> subst h1 <;> subst g1 <;> simp at e
  · subst h2 g2
    have := itoa_inj hr hs e
    exact ⟨by rw [this.1], this.2⟩
  · exact absurd e (by unfold Qt.quoL; exact iv _ _ _ _ (by decide) d34)
  · exact absurd e (iv _ _ _ _ (by decide) d102)
  · exact absurd e (iv _ _ _ _ (by decide) d123)
  · exact absurd e.symm (by unfold Qt.quoL; exact iv _ _ _ _ (by decide) d34)
  · subst h2 g2
    unfold Qt.quoL at e
    simp only [List.cons_append, List.append_assoc, List.cons.injEq, true_and, List.nil_append] at e
    have := quo_inj e
    exact ⟨by rw [ba_of this.1], this.2⟩
  · exact absurd e (by unfold Qt.quoL; simp)
  · exact absurd e (by unfold Qt.quoL; simp)
  · exact absurd e.symm (iv _ _ _ _ (by decide) d102)
  · exact absurd e (by unfold Qt.quoL; simp)
  · simp only at h3 g3
    subst h3 g3
    have := itoa_inj hr hs e
    exact ⟨by rw [this.1], this.2⟩
  · exact absurd e.symm (iv _ _ _ _ (by decide) d123)
  · exact absurd e (by unfold Qt.quoL; simp)
  · simp only at h3 g3
    subst h2 g2 h3 g3
    have := pieces_inj h4 g4 nv.1 nw.1 (fun p hp q hq r s hr hs e => ih p hp q (hpv p hp) (hpw q hq) (nv.2 p hp) (nw.2 q hq) r s hr hs e) e
    exact ⟨by rw [this.1, this.2.1], this.2.2⟩
theorem text_same {v w : Vl} (hv : v.right = true) (hw : w.right = true) (nv : v.nmd = true) (nw : w.nmd = true) : ((textS v).toList == (textS w).toList) = v.same w := by
  rw [beq_ba, same_eq, Bool.eq_iff_iff, decide_eq_true_iff, decide_eq_true_iff]
  constructor
  · intro e
    unfold textS at e
    rw [if_pos hv, if_pos hw] at e
    injection e with e
    have e2 : v.text = w.text := by
      have := congrArg Array.toList e
      simpa using this
    exact (text_inj v w hv hw nv nw [] [] (fun b h => by cases h) (fun b h => by cases h) (by rw [e2])).1
  · rintro rfl
    rfl
end Vm
end Go.Proofs.YtbjlhdjcdinmhaaDoor
