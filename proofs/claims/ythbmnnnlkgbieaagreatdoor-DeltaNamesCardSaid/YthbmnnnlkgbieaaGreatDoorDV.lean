/- Mathematics: a word that is another one everywhere takes an edit of each of its places. -/
import Derived.Test.YthbmnnnlkgbieaaGreatDoorMC1
import Derived.Test.YthbmnnnlkgbieaaGreatDoorMA1
namespace Go.Proofs.YthbmnnnlkgbieaaGreatDoor

/-- A text that begins with a letter. -/
def NL (x : ByteArray) : Prop := 0 < x.size ∧ letN (gb x 0 : Int) = true
theorem gb_ext (s : ByteArray) {a b : Nat} (h : a < b) : gb (s.extract a b) 0 = gb s a := by
  have e := ext_b s a b
  unfold gb
  show ((byt (s.extract a b)).getD 0 0).toNat = ((byt s).getD a 0).toNat
  rw [e, List.getD_eq_getElem?_getD, List.getD_eq_getElem?_getD, List.getElem?_take_of_lt (by omega), List.getElem?_drop, Nat.add_zero]
theorem size_ext (s : ByteArray) {a b : Nat} (h : b ≤ s.size) : (s.extract a b).size = b - a := by
  have e := congrArg List.length (ext_b s a b)
  rw [List.length_take, List.length_drop] at e
  have h1 : (byt (s.extract a b)).length = (s.extract a b).size := rfl
  have h2 : (byt s).length = s.size := rfl
  omega
theorem lead_first {s : ByteArray} {k : Nat} (hk : k ≤ s.size) (h : k < atK s k) : letN (gb s k : Int) = false := by
  have hs := (atK_le s k hk).2
  have hlt : k < s.size := by omega
  cases hl : letN (gb s k : Int)
  · rfl
  · exfalso
    have e : atK s k = k + runM cmt lGo false (tl s k) := rfl
    have hb : letN ((s[k]'hlt).toNat : Int) = true := by rw [gb_of s k hlt]; exact hl
    have h1 : blkN ((s[k]'hlt).toNat : Int) = false := by
      unfold letN at hb; simp only [decide_eq_true_eq] at hb
      unfold blkN; rw [decide_eq_false_iff_not]; omega
    have h2 : ((s[k]'hlt).toNat : Int) ≠ 35 := by
      unfold letN at hb; simp only [decide_eq_true_eq] at hb
      omega
    rw [tl_cons s k hlt, lead_stop h1 h2] at e
    omega
theorem wLen_stop : ∀ l : List UInt8, wdN ((l.getD (wLen l) 0).toNat : Int) = false
  | [] => by decide
  | b :: t => by
    have ih := wLen_stop t
    cases hb : wdN (b.toNat : Int)
    · have e : wLen (b :: t) = 0 := runM_stop (go := wGo) hb
      rw [e]
      exact hb
    · have e : wLen (b :: t) = 1 + wLen t := runM_go (go := wGo) hb
      rw [e, Nat.add_comm, List.getD_cons_succ]
      exact ih
theorem word_stop (s : ByteArray) (a : Nat) : letN (gb s (a + wLen (tl s a)) : Int) = false := by
  have h := wLen_stop (tl s a)
  rw [tl_get] at h
  unfold wdN at h
  rw [Bool.or_eq_false_iff] at h
  exact h.1

theorem Step.lead_no {s : ByteArray} {k k' : Nat} {t : Tok} (hk : k ≤ s.size) (h : Step s k t k') : ¬ NL t.lead := by
  obtain ⟨h1, h2, h3, h4, h5⟩ := h
  rintro ⟨n1, n2⟩
  rw [h3] at n1 n2
  rw [size_ext s (by omega)] at n1
  rw [gb_ext s (by omega), lead_first hk (by omega)] at n2
  cases n2
theorem Up.leads {s : ByteArray} {D : List Tok} {k : Nat} (h : Up s D k) : ∀ t ∈ D, ¬ NL t.lead := by
  induction h with
  | nil => intro t ht; cases ht
  | snoc hu hs ih =>
    intro t ht
    rcases List.mem_append.1 ht with h | h
    · exact ih t h
    · rw [List.mem_singleton.1 h]; exact hs.lead_no hu.len
theorem RLex.leads {s : ByteArray} {l : List Tok} (h : RLex s l) : ∀ t ∈ l, ¬ NL t.lead := by
  obtain ⟨D, k, t, hu, ⟨ha, rfl⟩, rfl⟩ := h
  intro x hx
  rcases List.mem_append.1 hx with h | h
  · exact hu.leads x h
  · rw [List.mem_singleton.1 h]
    have hk := hu.len
    rintro ⟨n1, n2⟩
    dsimp only at n1 n2
    rw [size_ext s (Nat.le_refl _)] at n1
    rw [gb_ext s (by omega), lead_first hk (by omega)] at n2
    cases n2

/-- No two of it stand beside one another. -/
def Lone (wd : ByteArray) (l : List ByteArray) : Prop := ∀ i, l[i]? = some wd → l[i + 1]? ≠ some wd
theorem Lone.snoc {wd x : ByteArray} {l : List ByteArray} (h : Lone wd l) (hx : x = wd → l.getLast? ≠ some wd) : Lone wd (l ++ [x]) := by
  intro i h1 h2
  by_cases h3 : i + 1 < l.length
  · rw [List.getElem?_append_left (by omega)] at h1
    rw [List.getElem?_append_left h3] at h2
    exact h i h1 h2
  · by_cases h4 : i + 1 = l.length
    · rw [List.getElem?_append_left (by omega)] at h1
      rw [List.getElem?_append_right (by omega), show i + 1 - l.length = 0 by omega] at h2
      have e : x = wd := by simpa using h2
      refine hx e ?_
      rw [List.getLast?_eq_getElem?, show l.length - 1 = i by omega]
      exact h1
    · rw [List.getElem?_eq_none (by simp; omega)] at h2
      cases h2
theorem Step.word {s : ByteArray} {k k' : Nat} {t : Tok} {wd : ByteArray} (hw : NL wd) (h : Step s k t k') (e : t.text = wd) : letN (gb s (atK s k) : Int) = true ∧ letN (gb s k' : Int) = false := by
  obtain ⟨h1, h2, h3, h4, h5⟩ := h
  obtain ⟨_, _, h8, h9, h10, _⟩ := h5
  have hl : letN (gb s (atK s k) : Int) = true := by
    rw [← gb_ext s h8, ← h4, e]; exact hw.2
  refine ⟨hl, ?_⟩
  rw [(h10 hl).1]
  exact word_stop s _
theorem Up.lone {s : ByteArray} {D : List Tok} {k : Nat} {wd : ByteArray} (hw : NL wd) (h : Up s D k) : Lone wd (unitsL D) ∧ ((unitsL D).getLast? = some wd → letN (gb s k : Int) = false) := by
  induction h with
  | nil => exact ⟨fun i h => by simp [unitsL] at h, fun h => by simp [unitsL] at h⟩
  | snoc hu hs ih =>
    rename_i D k k' t
    obtain ⟨ih1, ih2⟩ := ih
    have hk := hu.len
    have hno := hs.lead_no hk
    have hwd := hs.word hw
    obtain ⟨h1, h2, h3, h4, h5⟩ := hs
    have ha := (atK_le s k hk).1
    have htx : ¬ t.text.size = 0 := by
      have := h5.2.2.1
      have := h5.2.2.2.1
      rw [h4, size_ext s (by omega)]; omega
    rw [unitsL_snoc, unitsT, unit1_one htx]
    by_cases hl : t.lead.size = 0
    · rw [unit1_nil hl, List.nil_append]
      have hak : atK s k = k := by
        rw [h3, size_ext s (by omega)] at hl; omega
      refine ⟨ih1.snoc (fun e hlast => ?_), fun hlast => ?_⟩
      · have := (hwd e).1
        rw [hak, ih2 hlast] at this
        cases this
      · rw [List.getLast?_append] at hlast
        exact (hwd (by simpa using hlast)).2
    · rw [unit1_one hl, ← List.append_assoc]
      have hne : t.lead ≠ wd := fun e => hno (e ▸ hw)
      refine ⟨(ih1.snoc (fun e => absurd e hne)).snoc (fun e hlast => ?_), fun hlast => ?_⟩
      · rw [List.getLast?_append] at hlast
        exact hne (by simpa using hlast)
      · rw [List.getLast?_append] at hlast
        exact (hwd (by simpa using hlast)).2
theorem RLex.lone {s : ByteArray} {l : List Tok} {wd : ByteArray} (hw : NL wd) (h : RLex s l) : Lone wd (unitsL l) := by
  have hld := h.leads
  obtain ⟨D, k, t, hu, ⟨ha, rfl⟩, rfl⟩ := h
  have hno := hld _ (List.mem_append_right _ (List.mem_singleton.2 rfl))
  have hL := (hu.lone hw).1
  have e0 : (s.extract s.size s.size).size = 0 := by rw [size_ext s (Nat.le_refl _)]; omega
  rw [unitsL_snoc, unitsT]
  dsimp only at hno ⊢
  rw [unit1_nil e0, List.append_nil]
  by_cases hl : (s.extract k s.size).size = 0
  · rw [unit1_nil hl, List.append_nil]; exact hL
  · rw [unit1_one hl]
    exact hL.snoc (fun e => absurd (e ▸ hw) hno)

/-- The edits of the places of a word, off the units. -/
def uw (wd nm : ByteArray) : List ByteArray → Nat → List Ed
  | [], _ => []
  | x :: r, b => (if byt x = byt wd then [⟨(b : Int), ((b + wd.size : Nat) : Int), nm⟩] else []) ++ uw wd nm r (b + x.size)
/-- The same, off the tokens. -/
def want1 (wd nm : ByteArray) (t : Tok) : List Ed := if byt t.text = byt wd then [⟨(t.at_ : Int), ((t.at_ + wd.size : Nat) : Int), nm⟩] else []
def wants (wd nm : ByteArray) (l : List Tok) : List Ed := l.flatMap (want1 wd nm)
theorem uw_append (wd nm : ByteArray) : ∀ (x y : List ByteArray) (b : Nat), uw wd nm (x ++ y) b = uw wd nm x b ++ uw wd nm y (b + szs x)
  | [], y, b => by simp [uw, szs]
  | a :: x, y, b => by
    have e : szs (a :: x) = a.size + szs x := by simp [szs]
    rw [List.cons_append, uw, uw, uw_append wd nm x y, e, List.append_assoc, Nat.add_assoc]
theorem szs_unit1 (x : ByteArray) : szs (unit1 x) = x.size := by
  by_cases h : x.size = 0
  · rw [unit1_nil h, h]; rfl
  · rw [unit1_one h]; simp [szs]
theorem uw_unit1 (wd nm x : ByteArray) (b : Nat) (hw : 0 < wd.size) : uw wd nm (unit1 x) b = if byt x = byt wd then [⟨(b : Int), ((b + wd.size : Nat) : Int), nm⟩] else [] := by
  by_cases h : x.size = 0
  · rw [unit1_nil h, if_neg (fun e => by rw [byt_inj e] at h; omega)]; rfl
  · rw [unit1_one h]
    simp [uw]
theorem Up.wants {s : ByteArray} {D : List Tok} {k : Nat} {wd : ByteArray} (nm : ByteArray) (hw : NL wd) (h : Up s D k) : uw wd nm (unitsL D) 0 = wants wd nm D ∧ szs (unitsL D) = k := by
  induction h with
  | nil => exact ⟨rfl, rfl⟩
  | snoc hu hs ih =>
    rename_i D k k' t
    obtain ⟨ih1, ih2⟩ := ih
    have hk := hu.len
    have hno := hs.lead_no hk
    obtain ⟨h1, h2, h3, h4, h5⟩ := hs
    have ha := (atK_le s k hk).1
    have hk1 := h5.2.2.1
    have hk2 := h5.2.2.2.1
    have hne : ¬ byt t.lead = byt wd := fun e => hno (byt_inj e ▸ hw)
    have e1 : t.lead.size = atK s k - k := by rw [h3, size_ext s (by omega)]
    have e2 : t.text.size = k' - atK s k := by rw [h4, size_ext s (by omega)]
    refine ⟨?_, ?_⟩
    · rw [unitsL_snoc, unitsT, uw_append, uw_append, ih1, ih2, uw_unit1 _ _ _ _ hw.1, if_neg hne, uw_unit1 _ _ _ _ hw.1, szs_unit1, List.nil_append]
      unfold Go.Proofs.YthbmnnnlkgbieaaGreatDoor.wants
      rw [List.flatMap_append]
      congr 1
      simp only [List.flatMap_cons, List.flatMap_nil, List.append_nil, want1]
      have : 0 + k + t.lead.size = t.at_ := by omega
      rw [this]
    · rw [unitsL_snoc, szs_append, unitsT, szs_append, szs_unit1, szs_unit1]
      omega
theorem RLex.wants {s : ByteArray} {l : List Tok} {wd : ByteArray} (nm : ByteArray) (hw : NL wd) (h : RLex s l) : uw wd nm (unitsL l) 0 = wants wd nm l := by
  have hld := h.leads
  obtain ⟨D, k, t, hu, ⟨ha, rfl⟩, rfl⟩ := h
  have hno := hld _ (List.mem_append_right _ (List.mem_singleton.2 rfl))
  obtain ⟨h1, h2⟩ := hu.wants nm hw
  have e0 : (s.extract s.size s.size).size = 0 := by rw [size_ext s (Nat.le_refl _)]; omega
  have hw0 := hw.1
  have hne : ¬ byt (s.extract k s.size) = byt wd := fun e => hno (by have := byt_inj e; dsimp only; rw [this]; exact hw)
  have hnt : ¬ byt (s.extract s.size s.size) = byt wd := fun e => by rw [byt_inj e] at e0; omega
  rw [unitsL_snoc, unitsT, uw_append, uw_append, h1, uw_unit1 _ _ _ _ hw0, if_neg hne, uw_unit1 _ _ _ _ hw0, if_neg hnt]
  unfold Go.Proofs.YthbmnnnlkgbieaaGreatDoor.wants
  rw [List.flatMap_append]
  congr 1
  simp only [List.flatMap_cons, List.flatMap_nil, List.append_nil, want1]
  rw [if_neg hnt]
theorem wants_len (wd nm : ByteArray) : ∀ l : List Tok, (wants wd nm l).length ≤ l.length
  | [] => Nat.le_refl _
  | t :: l => by
    have := wants_len wd nm l
    unfold wants at *
    rw [List.flatMap_cons, List.length_append, List.length_cons]
    have : (want1 wd nm t).length ≤ 1 := by unfold want1; split <;> simp
    omega

/-- The other word in the place of the word. -/
def ren1 (wd nm x : ByteArray) : ByteArray := if byt x = byt wd then nm else x
def ren (wd nm : ByteArray) (t : Tok) : Tok := ⟨t.kind, t.at_, t.lead, ren1 wd nm t.text⟩
theorem ren_units {wd nm : ByteArray} (hw : NL wd) (hn : NL nm) : ∀ l : List Tok, (∀ t ∈ l, ¬ NL t.lead) → unitsL (l.map (ren wd nm)) = (unitsL l).map (ren1 wd nm)
  | [], _ => rfl
  | t :: l, h => by
    have ih := ren_units hw hn l (fun x hx => h x (List.mem_cons_of_mem _ hx))
    have hno := h t (List.mem_cons_self)
    have hne : ¬ byt t.lead = byt wd := fun e => hno (byt_inj e ▸ hw)
    unfold unitsL at *
    rw [List.map_cons, List.flatMap_cons, List.flatMap_cons, List.map_append, ih]
    congr 1
    unfold unitsT
    rw [List.map_append]
    congr 1
    · show unit1 t.lead = _
      by_cases hl : t.lead.size = 0
      · rw [unit1_nil hl]; rfl
      · rw [unit1_one hl]; simp [ren1, hne]
    · show unit1 (ren1 wd nm t.text) = _
      have h1 := hw.1
      have h2 := hn.1
      by_cases hl : t.text.size = 0
      · have : ¬ byt t.text = byt wd := fun e => by rw [byt_inj e] at hl; omega
        rw [unit1_nil hl, show ren1 wd nm t.text = t.text by simp [ren1, this], unit1_nil hl]; rfl
      · rw [unit1_one hl]
        by_cases e : byt t.text = byt wd
        · rw [show ren1 wd nm t.text = nm by simp [ren1, e], unit1_one (by omega)]; simp [ren1, e]
        · rw [show ren1 wd nm t.text = t.text by simp [ren1, e], unit1_one hl]; simp [ren1, e]
theorem units_mem {x : ByteArray} : ∀ l : List Tok, x ∈ unitsL l → ∃ t ∈ l, x = t.lead ∨ x = t.text
  | [], h => by simp [unitsL] at h
  | t :: l, h => by
    unfold unitsL at h
    rw [List.flatMap_cons] at h
    rcases List.mem_append.1 h with h | h
    · refine ⟨t, List.mem_cons_self, ?_⟩
      unfold unitsT unit1 at h
      rcases List.mem_append.1 h with h | h
      · split at h
        · cases h
        · exact .inl (List.mem_singleton.1 h)
      · split at h
        · cases h
        · exact .inr (List.mem_singleton.1 h)
    · obtain ⟨t', h1, h2⟩ := units_mem l h
      exact ⟨t', List.mem_cons_of_mem _ h1, h2⟩
theorem cat_one (x : ByteArray) : cat [x] = x := by
  unfold cat
  simp [Lib.join]
/-- Which places have the word. -/
def isW (u : List ByteArray) (wd : ByteArray) (i : Nat) : Bool := decide ((bs u)[i]? = some (byt wd))
theorem isW_get {u : List ByteArray} {wd : ByteArray} {i : Nat} (h : i < u.length) : isW u wd i = decide (byt u[i] = byt wd) := by
  unfold isW
  rw [List.getElem?_eq_getElem (by rw [bs_len]; exact h)]
  simp [bs]
theorem marks_uw {u : List ByteArray} {wd nm : ByteArray} : ∀ (n i : Nat), u.length - i = n → (Dl.marks (isW u wd) n i).map (edOf u (u.map (ren1 wd nm))) = uw wd nm (u.drop i) (szs (u.take i))
  | 0, i, h => by rw [List.drop_eq_nil_of_le (by omega)]; rfl
  | n + 1, i, h => by
    have hi : i < u.length := by omega
    have ih := marks_uw (u := u) (wd := wd) (nm := nm) n (i + 1) (by omega)
    have hs := szs_take u i hi
    rw [List.drop_eq_getElem_cons hi, uw, Dl.marks, isW_get hi, ← hs]
    by_cases e : byt u[i] = byt wd
    · rw [if_pos e, if_pos (by simpa using e), List.map_cons, ih]
      have hz : u[i].size = wd.size := by rw [byt_inj e]
      rw [show [(⟨((szs (u.take i) : Nat) : Int), ((szs (u.take i) + wd.size : Nat) : Int), nm⟩ : Ed)] ++ uw wd nm (u.drop (i + 1)) (szs (u.take (i + 1))) = ⟨((szs (u.take i) : Nat) : Int), ((szs (u.take i) + wd.size : Nat) : Int), nm⟩ :: uw wd nm (u.drop (i + 1)) (szs (u.take (i + 1))) from rfl]
      congr 1
      unfold edOf
      dsimp only
      rw [hs, hz, show i + 1 - i = 1 by omega, List.drop_eq_getElem_cons (by rw [List.length_map]; exact hi), List.take_succ_cons, List.take_zero, cat_one, List.getElem_map]
      rw [show ren1 wd nm u[i] = nm by simp [ren1, e]]
    · rw [if_neg e, if_neg (by simpa using e), List.nil_append, ih]

/-- The way from a text's tokens to those with the other word. -/
theorem names_only {s : ByteArray} {l : List Tok} {wd nm : ByteArray} (h : RLex s l) (hw : NL wd) (hn : NL nm) (hno : ∀ t ∈ l, t.text ≠ nm) (hl : l.length ≤ 300) {G : List Dl.Gap} (hG : Ap (unitsL l) (unitsL (l.map (ren wd nm))) G) :
    edsOf (unitsL l) (unitsL (l.map (ren wd nm))) (Dl.few G) = wants wd nm l := by
  have hld := h.leads
  have hlone := h.lone hw
  have hwa := h.wants nm hw
  have hlen := unitsL_len l
  rw [ren_units hw hn l hld] at hG ⊢
  have hnu : ∀ x ∈ unitsL l, x ≠ nm := fun x hx e => by
    obtain ⟨t, h1, h2 | h2⟩ := units_mem l hx
    · exact hld t h1 (by rw [← h2, e]; exact hn)
    · exact hno t h1 (by rw [← h2, e])
  generalize unitsL l = u at *
  have hm : u.length * (u.map (ren1 wd nm)).length ≤ 1048576 := by
    rw [List.length_map]
    have : u.length * u.length ≤ 600 * 600 := Nat.mul_le_mul (by omega) (by omega)
    omega
  have hg := (hG.good hm).1
  have hM : Dl.Mark (bs u) (bs (u.map (ren1 wd nm))) (isW u wd) := by
    refine ⟨by rw [bs_len, bs_len, List.length_map], ?_, ?_, ?_⟩
    · intro i j hat
      obtain ⟨hi, hj, hij⟩ := at_get hat
      rw [List.length_map] at hj
      rw [List.getElem_map] at hij
      have hjn : ¬ byt u[j] = byt wd := fun e => by
        rw [show ren1 wd nm u[j] = nm by simp [ren1, e]] at hij
        exact hnu _ (List.getElem_mem hi) hij
      rw [show ren1 wd nm u[j] = u[j] by simp [ren1, hjn]] at hij
      rw [isW_get hi, isW_get hj, hij]
      exact ⟨decide_eq_false hjn, decide_eq_false hjn⟩
    · intro i hi hp
      rw [bs_len] at hi
      rw [isW_get hi, decide_eq_false_iff_not] at hp
      refine at_bs ⟨u[i], List.getElem?_eq_getElem hi, ?_⟩
      rw [List.getElem?_map, List.getElem?_eq_getElem hi]
      simp [ren1, hp]
    · intro i hi hp
      rw [bs_len] at hi
      rw [isW_get (by omega), decide_eq_true_iff] at hp
      rw [isW_get hi, decide_eq_false_iff_not]
      intro e
      exact hlone i (by rw [List.getElem?_eq_getElem (by omega), byt_inj hp]) (by rw [List.getElem?_eq_getElem hi, byt_inj e])
  have e := hM.only hg rfl
  rw [bs_len, Nat.sub_zero] at e
  have key : edsOf u (u.map (ren1 wd nm)) G = wants wd nm l := by
    rw [← hwa, e, edsOf, marks_uw u.length 0 (by omega), List.drop_zero, List.take_zero]
    rfl
  have hGl : G.length ≤ 300 := by
    have h1 := congrArg List.length key
    rw [edsOf, List.length_map] at h1
    have := wants_len wd nm l
    omega
  have hf : Dl.few G = G := by unfold Dl.few; rw [dif_neg (by omega)]
  rw [hf]
  exact key
end Go.Proofs.YthbmnnnlkgbieaaGreatDoor
