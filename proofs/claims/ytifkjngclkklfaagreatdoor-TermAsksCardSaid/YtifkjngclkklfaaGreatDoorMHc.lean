/- Mathematics: tokens that stand apart enough are read again. -/
import Derived.Test.YtifkjngclkklfaaGreatDoorMHb
import Derived.Test.YtifkjngclkklfaaGreatDoorMGo
import Derived.Test.YtifkjngclkklfaaGreatDoorMGr
import Derived.Test.YtifkjngclkklfaaGreatDoorMGx
namespace Go.Proofs.YtifkjngclkklfaaGreatDoor
namespace Ps
def safe (x ds : Bs) : Prop := ∀ c, ds.head? = some c → ((∀ a, x.head? = some a → wdN a.toNat = true → wdN c.toNat = false) ∧ (x = [61] → c ≠ 61))
theorem w_app : ∀ (c : Bool) (x m : Bs), runM wSt wGo c x = x.length → (∀ b, m.head? = some b → wdN b.toNat = false) → runM wSt wGo c (x ++ m) = x.length
  | c, [], m, _, hm => by
    cases m with
    | nil => rfl
    | cons b t => exact runM_stop (hm b rfl)
  | c, b :: t, m, h, hm => by
    by_cases hg : wGo c b.toNat = true
    · rw [List.cons_append, runM_go hg]
      rw [runM_go hg] at h
      simp only [List.length_cons] at h ⊢
      rw [w_app _ t m (by omega) hm]
      omega
    · rw [runM_stop (by simpa using hg)] at h
      simp at h
/-- What a token begins with. -/
theorem head_ok {b : UInt8} {t : Bs} (he : (firstL (b :: t)).2.2 = 0) : b.toNat < 128 ∧ lGo false b.toNat = false := by
  have key : letN b.toNat = true ∨ digN b.toNat = true ∨ b.toNat = 34 ∨ b ∈ signs := by
    unfold firstL at he
    rw [if_neg (by simp)] at he
    have e : (b :: t).getD 0 0 = b := rfl
    rw [e] at he
    by_cases h1 : letN b.toNat = true
    · exact .inl h1
    rw [if_neg h1] at he
    by_cases h2 : digN b.toNat = true
    · exact .inr (.inl h2)
    rw [if_neg h2] at he
    by_cases h3 : b.toNat = 34
    · exact .inr (.inr (.inl h3))
    rw [if_neg h3] at he
    unfold signL at he
    by_cases h4 : Lib.hasPrefix (b :: t) [61, 61] = true
    · unfold Lib.hasPrefix at h4
      rw [List.isPrefixOf_iff_prefix] at h4
      obtain ⟨t', ht'⟩ := h4
      injection ht' with h5 h6
      rw [← h5]
      exact .inr (.inr (.inr (by decide)))
    · rw [if_neg h4] at he
      by_cases h5 : 0 ≤ Lib.indexByte signs ((b :: t).getD 0 0)
      · obtain ⟨o, ho⟩ := Int.eq_ofNat_of_zero_le h5
        have := (Lib.indexByte_some ho).1
        exact .inr (.inr (.inr (List.mem_of_getElem? this)))
      · rw [if_neg h5] at he; cases he
  have ar : b.toNat < 128 ∧ b.toNat ≠ 32 ∧ b.toNat ≠ 9 ∧ b.toNat ≠ 10 ∧ b.toNat ≠ 13 ∧ b.toNat ≠ 35 := by
    rcases key with h | h | h | h
    · unfold letN at h
      have := of_decide_eq_true h
      omega
    · unfold digN at h
      have := of_decide_eq_true h
      omega
    · omega
    · have hall : ∀ x ∈ signs, x.toNat < 128 ∧ x.toNat ≠ 32 ∧ x.toNat ≠ 9 ∧ x.toNat ≠ 10 ∧ x.toNat ≠ 13 ∧ x.toNat ≠ 35 := by decide
      exact hall b h
  refine ⟨ar.1, ?_⟩
  unfold lGo cmt blkN
  rw [if_neg (by omega), if_neg (by omega)]
  simp only [Bool.false_or, decide_eq_false_iff_not]
  omega
theorem first_glue (x m : Bs) (he : (firstL x).2.2 = 0) (hk : (firstL x).1 ≠ 0) (hl : (firstL x).2.1 = x.length) (hs : safe x m) : firstL (x ++ m) = firstL x := by
  have hne : x ≠ [] := fun e => hk ((first_kind x he).1.2 e)
  have hl0 : 0 < x.length := List.length_pos_iff.2 hne
  have hg : (x ++ m).getD 0 0 = x.getD 0 0 := by
    simp only [List.getD_eq_getElem?_getD, List.getElem?_append_left hl0]
  have hne2 : x ++ m ≠ [] := by simp [hne]
  have hd : x.head? = some (x.getD 0 0) := by
    cases x with
    | nil => exact absurd rfl hne
    | cons b t => rfl
  have hw : wdN (x.getD 0 0).toNat = true → wLen x = x.length → wLen (x ++ m) = wLen x := fun h1 h2 => by
    rw [h2]
    exact w_app _ _ _ h2 (fun b hb => (hs b hb).1 _ hd h1)
  unfold firstL at he hk hl ⊢
  rw [if_neg hne] at he hk hl ⊢
  rw [if_neg hne2, hg]
  by_cases h1 : letN (x.getD 0 0).toNat = true
  · rw [if_pos h1] at he hk hl
    rw [if_pos h1, if_pos h1]
    have e : wLen x = x.length := by
      unfold wordL at he hl
      split at hl
      · exact hl
      · rename_i h
        rw [if_neg h] at he
        split at hl
        · rename_i h'; rw [if_pos h'] at he; cases he
        · exact hl
    unfold wordL
    rw [hw (by unfold wdN; rw [h1]; rfl) e, e, List.take_append_of_le_length (Nat.le_refl _)]
  rw [if_neg h1] at he hk hl ⊢
  rw [if_neg h1]
  by_cases h2 : digN (x.getD 0 0).toNat = true
  · rw [if_pos h2] at he hk hl
    rw [if_pos h2, if_pos h2]
    have e : wLen x = x.length := by
      unfold numL at he hl
      split at hl
      · exact hl
      · rename_i h
        rw [if_neg h] at he
        cases he
    unfold numL
    rw [hw (by unfold wdN; rw [h2]; simp) e, e, List.take_append_of_le_length (Nat.le_refl _)]
  rw [if_neg h2] at he hk hl ⊢
  rw [if_neg h2]
  by_cases h3 : (x.getD 0 0).toNat = 34
  · rw [if_pos h3] at he hk hl ⊢
    rw [if_pos h3]
    have hu : (unq (x.take (qLong x))).isSome = true := by
      unfold quotL at he
      split at he
      · assumption
      · cases he
    have hle : qLong x ≤ x.length := Nat.min_le_right _ _
    obtain ⟨h2n, M, r, hx, hM, hum⟩ := quot_parts x _ hle hu
    obtain ⟨o, ho⟩ := Option.isSome_iff_exists.1 hum
    have hq : qLong (x ++ m) = qLong x := by
      have hd : (x ++ m).drop 1 = M ++ 34 :: (r ++ m) := by rw [hx]; simp
      have hr : qLen (M ++ 34 :: (r ++ m)) = M.length := um_run M false o _ ho
      unfold qLong
      rw [hd, hr]
      unfold qLong at hM hle
      rw [List.length_append]
      have : 0 < x.length := hl0
      unfold qLong at h2n
      omega
    unfold quotL
    rw [hq, List.take_append_of_le_length hle]
  rw [if_neg h3] at he hk hl ⊢
  rw [if_neg h3]
  have hp : Lib.hasPrefix (x ++ m) [61, 61] = Lib.hasPrefix x [61, 61] := by
    unfold Lib.hasPrefix
    match x, hne with
    | [a], _ =>
      by_cases ha : a = 61
      · subst ha
        cases m with
        | nil => rfl
        | cons c t =>
          have := (hs c rfl).2 rfl
          simp [List.isPrefixOf, Ne.symm this]
      · simp [List.isPrefixOf, Ne.symm ha]
    | a :: b :: t, _ => simp [List.isPrefixOf]
  unfold signL
  rw [hg, hp]
theorem lead_all : ∀ (sep ds : Bs), blank sep → (∀ b, ds.head? = some b → lGo false b.toNat = false) → runM cmt lGo false (sep ++ ds) = sep.length
  | [], ds, _, h => by
    cases ds with
    | nil => rfl
    | cons b t => exact runM_stop (h b rfl)
  | c :: sep, ds, hb, h => by
    have hc : lGo false c.toNat = true ∧ cmt false c.toNat = false := by
      rcases hb c (List.mem_cons_self) with rfl | rfl <;> decide
    rw [List.cons_append, runM_go hc.1, hc.2, lead_all sep ds (fun x hx => hb x (List.mem_cons_of_mem _ hx)) h, List.length_cons]
    omega
/-- Tokens from a place of the list on, with blanks between, and behind. -/
inductive Lin (l : List Tok) : Nat → Bs → Prop
  | nil (j : Nat) (ds : Bs) (h : j + 1 = l.length) (hb : blank ds) : Lin l j ds
  | cons (j : Nat) (sep ds : Bs) (h : j + 1 < l.length) (hb : blank sep) (hs : safe (txt l j) ds) (hr : Lin l (j + 1) ds) : Lin l j (sep ++ txt l j ++ ds)
theorem Lin.lead {l : List Tok} {j : Nat} {sep ds : Bs} (h : Lin l j ds) (hb : blank sep) : Lin l j (sep ++ ds) := by
  have ba : ∀ {s t : Bs}, blank s → blank t → blank (s ++ t) := fun h1 h2 c hc => by
    rcases List.mem_append.1 hc with hc | hc
    · exact h1 c hc
    · exact h2 c hc
  cases h with
  | nil _ _ h hb' => exact .nil j _ h (ba hb hb')
  | cons _ sep' ds' h hb' hs hr =>
    have := Lin.cons j (sep ++ sep') ds' h (ba hb hb') hs hr
    simpa using this
/-- What a text's tokens are. -/
structure LexOk (l : List Tok) : Prop where
  one : ∀ i (h : i + 1 < l.length), firstL (txt l i) = (l[i].kind, (txt l i).length, 0) ∧ l[i].kind ≠ 0
  fin : ∀ i (h : i < l.length), i + 1 = l.length → l[i].kind = 0 ∧ l[i].text = ⟨#[]⟩
  utf : ∀ i, i + 1 < l.length → badAt (txt l i) = none
  sz : ∀ i, i + 1 < l.length → (txt l i).length ≤ 16384
theorem LexOk.ne {l : List Tok} (h : LexOk l) {i : Nat} (hi : i + 1 < l.length) : txt l i ≠ [] := fun e => by
  obtain ⟨h1, h2⟩ := h.one i hi
  rw [e] at h1
  have := congrArg Prod.fst h1
  exact h2 this.symm
theorem Sg.head {l : List Tok} {i j : Nat} {bs : Bs} (h : Sg l i j bs) : ∃ t, bs = txt l i ++ t := by
  induction h with
  | one i h => exact ⟨[], by simp⟩
  | @two i j k bs sep cs h1 h2 hb hs i1 i2 =>
    obtain ⟨t, rfl⟩ := i1
    exact ⟨t ++ (sep ++ cs), by simp⟩
theorem blank_head {s : Bs} (h : blank s) {c : UInt8} (hc : s.head? = some c) : wdN c.toNat = false ∧ c ≠ 61 := by
  cases s with
  | nil => cases hc
  | cons a t =>
    injection hc with hc
    subst hc
    rcases h a List.mem_cons_self with rfl | rfl <;> decide
theorem Sg.lin {l : List Tok} (F : LexOk l) {i k : Nat} {bs : Bs} (h : Sg l i k bs) : ∀ ds, Lin l k ds → safe (txt l (k - 1)) ds → k < l.length → Lin l i (bs ++ ds) := by
  induction h with
  | one i h => intro ds hd hs hk; exact Lin.cons i [] ds hk blank0 hs hd
  | @two i j k bs sep cs h1 h2 hb hs i1 i2 =>
    intro ds hd hsf hk
    have hj := h2.lt
    have l2 := i2 ds hd hsf hk
    have l3 := l2.lead hb
    have := i1 _ l3 ?_ (by omega)
    · simpa using this
    · intro c hc
      cases sep with
      | cons a t =>
        have hc' : (a :: t).head? = some c := by simpa using hc
        exact ⟨fun _ _ _ => (blank_head hb hc').1, fun _ => (blank_head hb hc').2⟩
      | nil =>
        obtain ⟨t, rfl⟩ := h2.head
        have hne := F.ne (i := j) (by omega)
        rcases hs with h | h | h
        · exact absurd rfl h
        · have hc' : (txt l j).head? = some c := by
            cases hx : txt l j with
            | nil => exact absurd hx hne
            | cons a u => rw [hx] at hc; simpa using hc
          cases hx : txt l j with
          | nil => exact absurd hx hne
          | cons a u =>
            rw [hx] at hc' h
            injection hc' with hc'
            subst hc'
            simp only [soft, Bool.and_eq_true, Bool.not_eq_true', bne_iff_ne, ne_eq] at h
            exact ⟨fun _ _ _ => h.1, fun _ => h.2⟩
        · cases hx : txt l (j - 1) with
          | nil => rw [hx] at h; cases h
          | cons a u =>
            rw [hx] at h
            simp only [hard, Bool.and_eq_true, Bool.not_eq_true', bne_iff_ne, ne_eq] at h
            refine ⟨fun b hb' hw => ?_, fun e => absurd e h.2⟩
            injection hb' with hb'
            subst hb'
            rw [h.1] at hw; cases hw
theorem byt_inj {a b : ByteArray} (h : a.data.toList = b.data.toList) : a = b := by
  obtain ⟨⟨a⟩⟩ := a
  obtain ⟨⟨b⟩⟩ := b
  simpa using h
theorem txt_eq {l : List Tok} {i : Nat} (h : i < l.length) : txt l i = l[i].text.data.toList := by
  unfold txt textAt
  rw [List.getElem?_eq_getElem h]
  rfl
theorem lin_lex (u : ByteArray) {l : List Tok} (F : LexOk l) : ∀ j ds, Lin l j ds → ∀ k n f, k ≤ u.size → tl u k = ds → n + (l.length - j) ≤ 4000 → ds.length < f → ∃ C, lexF u f k n = .good C ∧ C.map kt = (l.drop j).map kt := by
  intro j ds h
  induction h with
  | nil j ds h hb =>
    intro k n f hk ht hn hf
    obtain ⟨f, rfl⟩ : ∃ g, f = g + 1 := ⟨f - 1, by omega⟩
    have hlen : (tl u k).length = u.size - k := tl_len u k
    have ha : atK u k = u.size := by
      unfold atK lLen
      have e : tl u k = ds ++ [] := by rw [ht]; simp
      rw [e, lead_all ds [] hb (fun b hb => by cases hb)]
      rw [ht] at hlen
      omega
    have hnil : tl u (atK u k) = [] := tl_end u _ (by omega)
    have he : errK u k = 0 := by unfold errK; rw [hnil]; rfl
    have h0 : (tokK u k).kind = 0 := by show (firstL (tl u (atK u k))).1 = 0; rw [hnil]; rfl
    have h1 : (tokK u k).text = ⟨#[]⟩ := by
      show u.extract (atK u k) (atK u k + (firstL (tl u (atK u k))).2.1) = _
      rw [hnil]
      exact ext_none u _
    refine ⟨[tokK u k], lexF_end he (by omega) h0, ?_⟩
    have hj : j < l.length := by omega
    rw [List.drop_eq_getElem_cons hj, List.drop_eq_nil_of_le (by omega)]
    obtain ⟨f1, f2⟩ := F.fin j hj h
    simp only [List.map_cons, List.map_nil, kt, h0, h1, f1, f2]
  | cons j sep ds h hb hs hr ih =>
    intro k n f hk ht hn hf
    obtain ⟨f, rfl⟩ : ∃ g, f = g + 1 := ⟨f - 1, by omega⟩
    obtain ⟨o1, o2⟩ := F.one j h
    have hne := F.ne h
    have hlen : (tl u k).length = u.size - k := tl_len u k
    rw [ht] at hlen
    simp only [List.length_append] at hlen hf
    have hx0 : 0 < (txt l j).length := List.length_pos_iff.2 hne
    have hhd : ∀ b, (txt l j ++ ds).head? = some b → lGo false b.toNat = false := fun b hb' => by
      cases hx : txt l j with
      | nil => exact absurd hx hne
      | cons a t =>
        rw [hx] at hb' o1
        simp only [List.cons_append, List.head?_cons, Option.some.injEq] at hb'
        subst hb'
        exact (head_ok (t := t) (by rw [o1])).2
    have ha : atK u k = k + sep.length := by
      unfold atK lLen
      rw [ht, List.append_assoc, lead_all sep _ hb hhd]
    have hat : tl u (atK u k) = txt l j ++ ds := by
      rw [ha, ← tl_drop, ht, List.append_assoc, List.drop_left]
    have hfi : firstL (tl u (atK u k)) = (l[j].kind, (txt l j).length, 0) := by
      rw [hat, first_glue (txt l j) ds (by rw [o1]) (by rw [o1]; exact o2) (by rw [o1]) hs, o1]
    have he : errK u k = 0 := by unfold errK; rw [hfi]
    have hkd : (tokK u k).kind = l[j].kind := by show (firstL (tl u (atK u k))).1 = _; rw [hfi]
    have hen : endK u k = k + sep.length + (txt l j).length := by unfold endK; rw [hfi, ha]
    have htx : (tokK u k).text = l[j].text := by
      apply byt_inj
      rw [tok_text, hfi, hat, List.take_left, txt_eq (by omega)]
    obtain ⟨C, h1, h2⟩ := ih (endK u k) (n + 1) f (by omega) (by
      rw [hen, Nat.add_assoc, ← tl_drop, ht]
      rw [List.append_assoc, ← List.append_assoc, ← List.length_append, List.drop_left]) (by omega) (by omega)
    refine ⟨tokK u k :: C, ?_, ?_⟩
    · rw [lexF_next he (by omega) (by rw [hkd]; exact o2), h1]
      rfl
    · rw [List.drop_eq_getElem_cons (by omega : j < l.length), List.map_cons, List.map_cons, h2]
      congr 1
      unfold kt
      rw [hkd, htx]
theorem Sg.utf {l : List Tok} (F : LexOk l) {i k : Nat} {bs : Bs} (h : Sg l i k bs) (hk : k < l.length) : badAt bs = none := by
  have asc : ∀ {s : Bs}, blank s → badAt s = none := fun hb => ascii_good _ fun b hb' => by
    rcases hb b hb' with rfl | rfl <;> decide
  induction h with
  | one i h => exact F.utf i hk
  | two h1 h2 hb hs i1 i2 => exact good_app (good_app (i1 (by have := h2.lt; omega)) (asc hb)) (i2 hk)
/-- The tokens of a text. -/
theorem lexR_ok {s : ByteArray} {l : List Tok} (h : lexR s = .good l) : LexOk l := by
  have W := lexR_wf h (lexR_len h)
  have hg : s.size ≤ 16384 ∧ badAt s.data.toList = none ∧ ∀ t ∈ l, ∃ k, t = tokK s k ∧ errK s k = 0 := by
    unfold lexR at h
    split at h
    · cases h
    · split at h
      · cases h
      · rename_i ha hb
        exact ⟨by omega, by simpa using hb, lexF_mem s _ _ _ _ h⟩
  obtain ⟨hsi, hu, hm⟩ := hg
  have len : ∀ i (h : i + 1 < l.length), (txt l i).length ≤ 16384 := fun i hi => by
    obtain ⟨k, ek, he⟩ := hm l[i] (List.getElem_mem _)
    have et : txt l i = (tl s (atK s k)).take (firstL (tl s (atK s k))).2.1 := by rw [txt_eq (by omega), ek, tok_text]
    have e1 : (tl s (atK s k)).length ≤ s.data.toList.length := by unfold tl; rw [List.length_drop]; omega
    have e2 : s.data.toList.length = s.size := by simp
    rw [et, List.length_take]
    omega
  have main : ∀ i (h : i + 1 < l.length), firstL (txt l i) = (l[i].kind, (txt l i).length, 0) ∧ l[i].kind ≠ 0 ∧ badAt (txt l i) = none := fun i hi => by
    obtain ⟨k, ek, he⟩ := hm l[i] (List.getElem_mem _)
    have h0 := W.conv i (by omega) hi
    have et : txt l i = (tl s (atK s k)).take (firstL (tl s (atK s k))).2.1 := by rw [txt_eq (by omega), ek, tok_text]
    have hk : (firstL (tl s (atK s k))).1 = l[i].kind := by rw [ek]; rfl
    rw [← hk] at h0
    have hle := first_le (tl s (atK s k))
    have ef := first_take (tl s (atK s k)) _ he h0 (Nat.le_refl _) hle
    rw [← et] at ef
    have hlen : (txt l i).length = (firstL (tl s (atK s k))).2.1 := by rw [et, List.length_take]; omega
    have hpos : (firstL (tl s (atK s k))).2.1 ≠ 0 := fun e => h0 ((first_kind _ he).1.2 ((first_kind _ he).2.1 e))
    refine ⟨?_, by rw [← hk]; exact h0, ?_⟩
    · rw [ef, ← hk, hlen]
      unfold errK at he
      rw [← he]
    · have hne : tl s (atK s k) ≠ [] := fun e => h0 ((first_kind _ he).1.2 e)
      have h128 : ((tl s (atK s k)).getD 0 0).toNat < 128 := by
        unfold errK at he
        cases hx : tl s (atK s k) with
        | nil => exact absurd hx hne
        | cons b t => rw [hx] at he; exact (head_ok he).1
      have hsz : atK s k < s.data.toList.length := by
        rcases Nat.lt_or_ge (atK s k) s.data.toList.length with h' | h'
        · exact h'
        · exact absurd (List.drop_eq_nil_of_le h') hne
      have hd : badAt (tl s (atK s k)) = none := (cut_ok s.data.toList hu (atK s k) (by omega) (fun _ => by
        have : s.data.toList.getD (atK s k) 0 = (tl s (atK s k)).getD 0 0 := by simp [tl, List.getD_eq_getElem?_getD]
        rw [this]; omega)).2.1
      have hlow := first_low _ he h0
      rw [et]
      have := cut_low _ hd ((firstL (tl s (atK s k))).2.1 - 1) (by omega) hlow
      rwa [Nat.sub_add_cancel (by omega)] at this
  refine ⟨fun i hi => ⟨(main i hi).1, (main i hi).2.1⟩, fun i hi hl => ?_, fun i hi => (main i hi).2.2, len⟩
  obtain ⟨k, ek, he⟩ := hm l[i] (List.getElem_mem _)
  have h0 : l[i].kind = 0 := by
    by_cases hk : l[i].kind = 0
    · exact hk
    · have := W.next i hi hk; omega
  refine ⟨h0, ?_⟩
  rw [ek] at h0 ⊢
  have hnil : tl s (atK s k) = [] := (first_kind _ he).1.1 h0
  show s.extract (atK s k) (atK s k + (firstL (tl s (atK s k))).2.1) = _
  rw [hnil]
  exact ext_none s _
end Ps
end Go.Proofs.YtifkjngclkklfaaGreatDoor
/- Mathematics: a type's tokens; read, they are a tree that tells the type. -/
namespace Go.Proofs.YtifkjngclkklfaaGreatDoor
namespace Tm
open Ps Pg
abbrev Kt := Nat × Bs
/-- Pieces with commas between. -/
def joinK : List (List Kt) → List Kt
  | [] => []
  | x :: l => x ++ l.flatMap fun y => (5, [44]) :: y
theorem joinK_two (x y : List Kt) (l : List (List Kt)) : joinK (x :: y :: l) = x ++ (5, [44]) :: joinK (y :: l) := by simp [joinK]
def recK : List ByteArray → List (List Kt) → List (List Kt)
  | n :: ns, x :: xs => ((1, n.data.toList) :: (5, [58]) :: x) :: recK ns xs
  | _, _ => []
mutual
def Ty.tks : Ty → List Kt
  | .mk k ns ps => if k = 3 then (5, [123]) :: (joinK (recK ns (tksL ps)) ++ [(5, [125])])
    else if k = 4 then (2, [102, 110]) :: (5, [40]) :: (joinK ((tksL ps).take (ps.length - 1)) ++ (5, [41]) :: (5, [58]) :: ((tksL ps).getLast?.getD [])) else [(2, plainB k)]
def tksL : List Ty → List (List Kt)
  | [] => []
  | t :: ts => t.tks :: tksL ts
end
theorem tksL_map : ∀ l : List Ty, tksL l = l.map Ty.tks
  | [] => rfl
  | t :: ts => by rw [tksL, List.map_cons, tksL_map ts]
/-- These tokens stand from i on. -/
def At (l : List Tok) (i : Nat) (ts : List Kt) : Prop := ∀ j x, ts[j]? = some x → ∃ t, l[i + j]? = some t ∧ t.kind = x.1 ∧ t.text.data.toList = x.2
section
variable {l : List Tok} {i k : Nat} {x y : Bs} {ts us : List Kt}
theorem At.head (h : At l i ((k, x) :: ts)) : ∃ t, l[i]? = some t ∧ t.kind = k ∧ t.text.data.toList = x := h 0 _ rfl
theorem At.tail {a : Kt} (h : At l i (a :: ts)) : At l (i + 1) ts := fun j x e => by
  have := h (j + 1) x (by simpa using e)
  rw [show i + 1 + j = i + (j + 1) by omega]
  exact this
theorem At.left (h : At l i (ts ++ us)) : At l i ts := fun j x e => h j x (by rw [List.getElem?_append_left (List.getElem?_eq_some_iff.1 e).1]; exact e)
theorem At.right (h : At l i (ts ++ us)) : At l (i + ts.length) us := fun j x e => by
  have := h (ts.length + j) x (by rw [List.getElem?_append_right (by omega), show ts.length + j - ts.length = j by omega]; exact e)
  rw [show i + ts.length + j = i + (ts.length + j) by omega]
  exact this
theorem At.is (h : At l i ((k, x) :: ts)) (hk : k = 2 ∨ k = 5) : isM l i x = true := by
  obtain ⟨t, e, h1, h2⟩ := h.head
  unfold isM
  rw [e]
  simp only [h1, h2, beq_self_eq_true, Bool.and_true]
  rcases hk with rfl | rfl <;> rfl
theorem At.isnt (h : At l i ((k, x) :: ts)) (hn : k = 1 ∨ x ≠ y) : isM l i y = false := by
  obtain ⟨t, e, h1, h2⟩ := h.head
  unfold isM
  rw [e]
  simp only [h1, h2]
  rcases hn with rfl | hn
  · rfl
  · rw [(by rw [beq_eq_false_iff_ne]; exact hn : (x == y) = false), Bool.and_false]
theorem At.want (h : At l i ((k, x) :: ts)) (hk : k = 2 ∨ k = 5) : wantM l (-1) i x = (i + 1, -1) := by
  unfold wantM
  rw [if_neg (by omega), if_pos (h.is hk)]
theorem At.txt (h : At l i ((k, x) :: ts)) : txt l i = x ∧ i < l.length := by
  obtain ⟨t, e, h1, h2⟩ := h.head
  refine ⟨?_, (List.getElem?_eq_some_iff.1 e).1⟩
  unfold Ps.txt textAt
  rw [e]
  exact h2
theorem At.word {n : ByteArray} (h : At l i ((1, n.data.toList) :: ts)) (hd : Hd) : wordM l (-1) hd i = ({ hd with word := n, at_ := i }, i + 1, -1) := by
  obtain ⟨t, e, h1, h2⟩ := h.head
  unfold wordM
  rw [if_neg (by omega), if_pos (by unfold kindAt; rw [e]; exact h1)]
  have : textAt l i = n := by
    unfold textAt
    rw [e]
    exact byt_inj h2
  rw [this]
end
/-- What a type's tokens begin with. -/
theorem tks_head (t : Ty) : ∃ k x ts, t.tks = (k, x) :: ts ∧ (k = 2 ∨ k = 5) ∧ x ≠ [41] ∧ x ≠ [125] := by
  obtain ⟨k, ns, ps⟩ := t
  rw [Ty.tks]
  split
  · exact ⟨_, _, _, rfl, .inr rfl, by decide, by decide⟩
  · split
    · exact ⟨_, _, _, rfl, .inl rfl, by decide, by decide⟩
    · refine ⟨_, _, _, rfl, .inl rfl, ?_, ?_⟩ <;> (unfold plainB; split <;> (try split) <;> decide)
theorem tri_one (h : Hd) (k : Fo) : (tri (.one h k)).1 = node h k.len (tri k).2.1 (tri k).2.2 := by rw [Fo.one, tri]
theorem tri_fn {h : Hd} {k r : Fo} {t : Ty} {ts : List Ty} (h1 : node h k.len (tri k).2.1 (tri k).2.2 = (0, t)) (h2 : (tri r).2.2 = (0, ts)) : (tri (.cons h k r)).2.2 = (0, t :: ts) := by
  rw [tri]
  simp [fnStep, h1, h2]
theorem tri_rec {h : Hd} {k r : Fo} {t : Ty} {ns : List ByteArray} {ts : List Ty} (hk : h.kind = 33) (hl : k.len = 1) (h1 : (tri k).1 = (0, t)) (h2 : (tri r).2.1 = (0, ns, ts)) : (tri (.cons h k r)).2.1 = (0, h.word :: ns, t :: ts) := by
  rw [tri]
  simp [recStep, hk, hl, h1, h2]
theorem tri_app : ∀ {a b : Fo} {ts us : List Ty}, (tri a).2.2 = (0, ts) → (tri b).2.2 = (0, us) → (tri (a.app b)).2.2 = (0, ts ++ us)
  | .nil, b, ts, us, h, h' => by
    rw [tri] at h
    simp only [Prod.mk.injEq, true_and] at h
    subst h
    exact h'
  | .cons hd k r, b, ts, us, h, h' => by
    rw [tri] at h
    simp only [fnStep] at h
    split at h
    · rename_i hne
      simp only [Prod.mk.injEq] at h
      exact absurd h.1 hne
    · rename_i h0
      simp only [Prod.mk.injEq] at h
      have ih := tri_app (a := r) (b := b) (ts := (tri r).2.2.2) (us := us) (Prod.ext h.1 rfl) h'
      rw [Fo.app, tri_fn (t := (node hd k.len (tri k).2.1 (tri k).2.2).2) (Prod.ext (by omega) rfl) ih, ← h.2]
      rfl
/-- What is known of a type's reading. -/
def Reads (t : Ty) : Prop := ∀ (l : List Tok) (i f : Nat) (rest : List Kt), At l i (t.tks ++ rest) → t.tks.length ≤ f → ∃ h k, tyM l f .kind (-1) i = some (.one h k, i + t.tks.length, -1) ∧ node h k.len (tri k).2.1 (tri k).2.2 = (0, t) ∧ 1 + k.deep ≤ 2 * t.depth
theorem rec_reads : ∀ (ns : List ByteArray) (ps : List Ty), ns.length = ps.length → ns ≠ [] → (∀ p ∈ ps, Reads p) → ∀ (l : List Tok) (i f : Nat) (first : Bool) (rest : List Kt), At l i (joinK (recK ns (tksL ps)) ++ (5, [125]) :: rest) → (joinK (recK ns (tksL ps))).length + 1 ≤ f →
    ∃ fo, tyM l f (.recL first) (-1) i = some (fo, i + (joinK (recK ns (tksL ps))).length, -1) ∧ (tri fo).2.1 = (0, ns, ps) ∧ fo.deep ≤ 1 + 2 * depthL ps
  | [], _, _, hn, _, _, _, _, _, _, _, _ => absurd rfl hn
  | n :: ns, [], hl, _, _, _, _, _, _, _, _, _ => by simp at hl
  | n :: ns, p :: ps, hl, _, ih, l, i, f, first, rest, hat, hf => by
    obtain ⟨f, rfl⟩ : ∃ g, f = g + 1 := ⟨f - 1, by omega⟩
    have hp := ih p List.mem_cons_self
    cases ns with
    | nil =>
      obtain rfl : ps = [] := List.eq_nil_of_length_eq_zero (by simpa using hl.symm)
      have ej : joinK (recK [n] (tksL [p])) = (1, n.data.toList) :: (5, [58]) :: p.tks := by simp [tksL, recK, joinK]
      rw [ej] at hat hf ⊢
      simp only [List.cons_append] at hat
      simp only [List.length_cons] at hf ⊢
      obtain ⟨h, k, e1, e2, e3⟩ := hp l (i + 1 + 1) f _ hat.tail.tail (by omega)
      have hs : isM l (i + 1 + 1 + p.tks.length) sShut = true := (hat.tail.tail.right).is (.inr rfl)
      have hw : wantM l (-1) (i + 1) sCol = (i + 1 + 1, -1) := hat.tail.want (.inr rfl)
      rw [tyM, if_pos ⟨by omega, by rw [hat.isnt (.inl rfl)]; simp⟩]
      simp only [hat.word, hw, e1, Option.bind_some]
      rw [if_pos (Or.inr hs)]
      refine ⟨_, by rw [show i + (p.tks.length + 1 + 1) = i + 1 + 1 + p.tks.length by omega], ?_, ?_⟩
      · rw [Fo.one]
        exact tri_rec rfl rfl ((tri_one h k).trans e2) (by rw [tri])
      · rw [Fo.deep_one, Fo.deep_one, depthL, depthL]
        omega
    | cons n' ns =>
      cases ps with
      | nil => simp at hl
      | cons p' ps =>
        have ej : joinK (recK (n :: n' :: ns) (tksL (p :: p' :: ps))) = (1, n.data.toList) :: (5, [58]) :: (p.tks ++ (5, [44]) :: joinK (recK (n' :: ns) (tksL (p' :: ps)))) := by
          rw [tksL, tksL, recK, recK, joinK_two]
          rfl
        rw [ej] at hat hf ⊢
        simp only [List.cons_append, List.append_assoc] at hat
        simp only [List.length_cons, List.length_append] at hf ⊢
        obtain ⟨h, k, e1, e2, e3⟩ := hp l (i + 1 + 1) f _ hat.tail.tail (by omega)
        have hc := hat.tail.tail.right
        obtain ⟨fo, g1, g2, g3⟩ := rec_reads (n' :: ns) (p' :: ps) (by simpa using hl) (by simp) (fun q hq => ih q (List.mem_cons_of_mem _ hq)) l (i + 1 + 1 + p.tks.length + 1) f false rest hc.tail (by omega)
        rw [tyM, if_pos ⟨by omega, by rw [hat.isnt (.inl rfl)]; simp⟩]
        have hw : wantM l (-1) (i + 1) sCol = (i + 1 + 1, -1) := hat.tail.want (.inr rfl)
        have hw2 : wantM l (-1) (i + 1 + 1 + p.tks.length) sCom = (i + 1 + 1 + p.tks.length + 1, -1) := hc.want (.inr rfl)
        have hn : isM l (i + 1 + 1 + p.tks.length) sShut = false := hc.isnt (.inr (by decide))
        simp only [hat.word, hw, e1, Option.bind_some]
        rw [if_neg (by rw [hn]; simp)]
        simp only [hw2, g1, Res.pre, Option.map_some]
        refine ⟨_, by rw [show i + (p.tks.length + ((joinK (recK (n' :: ns) (tksL (p' :: ps)))).length + 1) + 1 + 1) = i + 1 + 1 + p.tks.length + 1 + (joinK (recK (n' :: ns) (tksL (p' :: ps)))).length by omega], ?_, ?_⟩
        · rw [Fo.one, Fo.app, Fo.app]
          exact tri_rec rfl rfl ((tri_one h k).trans e2) g2
        · rw [Fo.deep_app, Fo.deep_one, Fo.deep_one, depthL]
          omega
theorem fn_reads : ∀ (ps : List Ty), ps ≠ [] → (∀ p ∈ ps, Reads p) → ∀ (l : List Tok) (i f : Nat) (first : Bool) (rest : List Kt), At l i (joinK (tksL ps) ++ (5, [41]) :: rest) → (joinK (tksL ps)).length + 1 ≤ f →
    ∃ fo, tyM l f (.fnL first) (-1) i = some (fo, i + (joinK (tksL ps)).length, -1) ∧ (tri fo).2.2 = (0, ps) ∧ fo.deep ≤ 2 * depthL ps
  | [], hn, _, _, _, _, _, _, _, _ => absurd rfl hn
  | p :: ps, _, ih, l, i, f, first, rest, hat, hf => by
    obtain ⟨f, rfl⟩ : ∃ g, f = g + 1 := ⟨f - 1, by omega⟩
    have hp := ih p List.mem_cons_self
    obtain ⟨k0, x0, t0, eh, _, hx1, _⟩ := tks_head p
    have hno : isM l i sParS = false := by
      have h2 := hat
      cases ps with
      | nil =>
        rw [show joinK (tksL [p]) = p.tks by simp [tksL, joinK], eh] at h2
        exact h2.isnt (.inr hx1)
      | cons p' ps =>
        rw [tksL, tksL, joinK_two, eh] at h2
        simp only [List.cons_append, List.append_assoc] at h2
        exact h2.isnt (.inr hx1)
    cases ps with
    | nil =>
      have ej : joinK (tksL [p]) = p.tks := by simp [tksL, joinK]
      rw [ej] at hat hf ⊢
      obtain ⟨h, k, e1, e2, e3⟩ := hp l i f _ hat (by omega)
      have hs : isM l (i + p.tks.length) sParS = true := hat.right.is (.inr rfl)
      rw [tyM, if_pos ⟨by omega, by rw [hno]; simp⟩]
      simp only [e1, Option.bind_some]
      rw [if_pos (Or.inr hs)]
      refine ⟨_, rfl, ?_, ?_⟩
      · rw [Fo.one]
        exact tri_fn e2 (by rw [tri])
      · rw [Fo.deep_one, depthL, depthL]
        omega
    | cons p' ps =>
      have ej : joinK (tksL (p :: p' :: ps)) = p.tks ++ (5, [44]) :: joinK (tksL (p' :: ps)) := by
        rw [tksL, tksL, joinK_two]
      rw [ej] at hat hf ⊢
      simp only [List.append_assoc, List.cons_append] at hat
      simp only [List.length_cons, List.length_append] at hf ⊢
      obtain ⟨h, k, e1, e2, e3⟩ := hp l i f _ hat (by omega)
      have hc := hat.right
      obtain ⟨fo, g1, g2, g3⟩ := fn_reads (p' :: ps) (by simp) (fun q hq => ih q (List.mem_cons_of_mem _ hq)) l (i + p.tks.length + 1) f false rest hc.tail (by omega)
      rw [tyM, if_pos ⟨by omega, by rw [hno]; simp⟩]
      have hw2 : wantM l (-1) (i + p.tks.length) sCom = (i + p.tks.length + 1, -1) := hc.want (.inr rfl)
      have hn : isM l (i + p.tks.length) sParS = false := hc.isnt (.inr (by decide))
      simp only [e1, Option.bind_some]
      rw [if_neg (by rw [hn]; simp)]
      simp only [hw2, g1, Res.pre, Option.map_some]
      refine ⟨_, by rw [show i + (p.tks.length + ((joinK (tksL (p' :: ps))).length + 1)) = i + p.tks.length + 1 + (joinK (tksL (p' :: ps))).length by omega], ?_, ?_⟩
      · rw [Fo.one, Fo.app, Fo.app]
        exact tri_fn e2 g2
      · rw [Fo.deep_app, Fo.deep_one, depthL]
        omega
theorem depthL_app : ∀ (a b : List Ty), depthL (a ++ b) = max (depthL a) (depthL b)
  | [], b => by simp [depthL]
  | t :: a, b => by rw [List.cons_append, depthL, depthL, depthL_app a b]; omega
theorem reads : ∀ t : Ty, t.right = true → Reads t := by
  refine Ty.ind fun k ns ps ih hr l i f rest hat hf => ?_
  have hpr : ∀ p ∈ ps, Reads p := fun p hp => ih p hp (right_part hr hp)
  rcases right_cases hr with ⟨hk, rfl, rfl⟩ | ⟨rfl, hl, hnm, hrise⟩ | ⟨rfl, rfl, hpos⟩
  · have h3 : k ≠ 3 := by omega
    have h4 : k ≠ 4 := by omega
    have et : (Ty.mk k [] []).tks = [(2, plainB k)] := by rw [Ty.tks, if_neg h3, if_neg h4]
    rw [et] at hat hf ⊢
    obtain ⟨f, rfl⟩ : ∃ g, f = g + 1 := ⟨f - 1, by simp at hf; omega⟩
    rw [tyM, if_neg (by omega)]
    rcases hk with rfl | rfl | rfl
    · have hat' : At l i ((2, [100, 121, 110]) :: rest) := hat
      rw [if_neg (by rw [hat'.isnt (.inr (by decide))]; simp), if_neg (by rw [hat'.isnt (.inr (by decide))]; simp), if_pos (show isM l i kDyn = true from hat'.is (.inl rfl))]
      exact ⟨_, _, rfl, rfl, by simp [Fo.deep, Ty.depth, depthL]⟩
    · have hat' : At l i ((2, [105, 110, 116]) :: rest) := hat
      rw [if_pos (show isM l i kInt = true from hat'.is (.inl rfl))]
      exact ⟨_, _, rfl, rfl, by simp [Fo.deep, Ty.depth, depthL]⟩
    · have hat' : At l i ((2, [115, 116, 114]) :: rest) := hat
      rw [if_neg (by rw [hat'.isnt (.inr (by decide))]; simp), if_pos (show isM l i kStr = true from hat'.is (.inl rfl))]
      exact ⟨_, _, rfl, rfl, by simp [Fo.deep, Ty.depth, depthL]⟩
  · have et : (Ty.mk 3 ns ps).tks = (5, [123]) :: (joinK (recK ns (tksL ps)) ++ [(5, [125])]) := by rw [Ty.tks, if_pos rfl]
    rw [et] at hat hf ⊢
    simp only [List.cons_append, List.append_assoc, List.nil_append] at hat
    simp only [List.length_cons, List.length_append, List.length_nil] at hf ⊢
    obtain ⟨f, rfl⟩ : ∃ g, f = g + 1 := ⟨f - 1, by omega⟩
    have hrec : ∃ fo, tyM l f (.recL true) (-1) (i + 1) = some (fo, i + 1 + (joinK (recK ns (tksL ps))).length, -1) ∧ (tri fo).2.1 = (0, ns, ps) ∧ fo.deep ≤ 1 + 2 * depthL ps := by
      by_cases hn : ns = []
      · subst hn
        obtain rfl : ps = [] := List.eq_nil_of_length_eq_zero hl.symm
        have e0 : joinK (recK [] (tksL [])) = [] := by simp [recK, joinK]
        rw [e0] at hat ⊢
        obtain ⟨f, rfl⟩ : ∃ g, f = g + 1 := ⟨f - 1, by omega⟩
        rw [tyM, if_neg (by rintro ⟨_, h⟩; exact h ⟨rfl, (At.is (x := [125]) hat.tail (.inr rfl))⟩)]
        exact ⟨.nil, rfl, by rw [tri], by simp [Fo.deep]⟩
      · exact rec_reads ns ps hl hn hpr l (i + 1) f true rest hat.tail (by omega)
    obtain ⟨fo, g1, g2, g3⟩ := hrec
    have hs := hat.tail.right
    rw [tyM, if_neg (by omega), if_neg (by rw [hat.isnt (.inr (by decide))]; simp), if_neg (by rw [hat.isnt (.inr (by decide))]; simp), if_neg (by rw [hat.isnt (.inr (by decide))]; simp), if_pos (show isM l i sOpen = true from hat.is (.inr rfl))]
    have hw : wantM l (-1) (i + 1 + (joinK (recK ns (tksL ps))).length) sShut = (i + 1 + (joinK (recK ns (tksL ps))).length + 1, -1) := hs.want (.inr rfl)
    simp only [g1, Option.bind_some, hw]
    refine ⟨_, _, by rw [show i + ((joinK (recK ns (tksL ps))).length + (0 + 1) + 1) = i + 1 + (joinK (recK ns (tksL ps))).length + 1 by omega], ?_, ?_⟩
    · rw [g2]
      have : recEnd (0, ns, ps) = (0, .mk 3 ns ps) := by
        unfold recEnd
        rw [if_neg (by simp), if_pos (rise_nodup hrise), mkRec_eq (isRec_self hrise hl)]
      unfold node
      rw [if_neg (by simp), if_neg (by simp), if_neg (by simp), if_pos rfl, this]
    · rw [Ty.depth]
      omega
  · obtain ⟨qs, q, rfl⟩ : ∃ qs q, ps = qs ++ [q] := ⟨ps.dropLast, ps.getLast (List.ne_nil_of_length_pos hpos), (List.dropLast_concat_getLast _).symm⟩
    have et : (Ty.mk 4 [] (qs ++ [q])).tks = (2, [102, 110]) :: (5, [40]) :: (joinK (tksL qs) ++ (5, [41]) :: (5, [58]) :: q.tks) := by
      rw [Ty.tks, if_neg (by omega), if_pos rfl, tksL_map, tksL_map, List.map_append, List.length_append]
      simp
    rw [et] at hat hf ⊢
    simp only [List.cons_append, List.append_assoc] at hat
    simp only [List.length_cons, List.length_append] at hf ⊢
    obtain ⟨f, rfl⟩ : ∃ g, f = g + 1 := ⟨f - 1, by omega⟩
    have hfn : ∃ fo, tyM l f (.fnL true) (-1) (i + 1 + 1) = some (fo, i + 1 + 1 + (joinK (tksL qs)).length, -1) ∧ (tri fo).2.2 = (0, qs) ∧ fo.deep ≤ 2 * depthL qs := by
      by_cases hn : qs = []
      · subst hn
        have e0 : joinK (tksL []) = [] := by simp [tksL, joinK]
        rw [e0] at hat ⊢
        obtain ⟨f, rfl⟩ : ∃ g, f = g + 1 := ⟨f - 1, by omega⟩
        rw [tyM, if_neg (by rintro ⟨_, h⟩; exact h ⟨rfl, (At.is (x := [41]) hat.tail.tail (.inr rfl))⟩)]
        exact ⟨.nil, rfl, by rw [tri], by simp [Fo.deep]⟩
      · exact fn_reads qs hn (fun p hp => hpr p (List.mem_append_left _ hp)) l (i + 1 + 1) f true _ hat.tail.tail (by omega)
    obtain ⟨fo, g1, g2, g3⟩ := hfn
    have hs := hat.tail.tail.right
    obtain ⟨h, k, e1, e2, e3⟩ := hpr q (List.mem_append_right _ (List.mem_singleton.2 rfl)) l (i + 1 + 1 + (joinK (tksL qs)).length + 1 + 1) f rest hs.tail.tail (by omega)
    rw [tyM, if_neg (by omega), if_neg (by rw [hat.isnt (.inr (by decide))]; simp), if_neg (by rw [hat.isnt (.inr (by decide))]; simp), if_neg (by rw [hat.isnt (.inr (by decide))]; simp), if_neg (by rw [hat.isnt (.inr (by decide))]; simp)]
    have hw1 : wantM l (-1) i kFn = (i + 1, -1) := hat.want (.inl rfl)
    have hw2 : wantM l (-1) (i + 1) sParO = (i + 1 + 1, -1) := hat.tail.want (.inr rfl)
    have hw3 : wantM l (-1) (i + 1 + 1 + (joinK (tksL qs)).length) sParS = (i + 1 + 1 + (joinK (tksL qs)).length + 1, -1) := hs.want (.inr rfl)
    have hw4 : wantM l (-1) (i + 1 + 1 + (joinK (tksL qs)).length + 1) sCol = (i + 1 + 1 + (joinK (tksL qs)).length + 1 + 1, -1) := hs.tail.want (.inr rfl)
    simp only [hw1, hw2, g1, Option.bind_some, hw3, hw4, e1]
    have hap : (tri (fo.app (.one h k))).2.2 = (0, qs ++ [q]) := tri_app g2 (by rw [Fo.one]; exact tri_fn e2 (by rw [tri]))
    refine ⟨_, _, by rw [show i + ((joinK (tksL qs)).length + (q.tks.length + 1 + 1) + 1 + 1) = i + 1 + 1 + (joinK (tksL qs)).length + 1 + 1 + q.tks.length by omega], ?_, ?_⟩
    · unfold node
      rw [if_neg (by simp), if_neg (by simp), if_neg (by simp), if_neg (by simp), if_pos rfl, hap, if_neg (by rw [Fo.len_app]; simp [Fo.one, Fo.len]), if_neg (by simp)]
    · rw [Fo.deep_app, Fo.deep_one, Ty.depth, depthL_app, depthL, depthL]
      omega
end Tm
end Go.Proofs.YtifkjngclkklfaaGreatDoor
