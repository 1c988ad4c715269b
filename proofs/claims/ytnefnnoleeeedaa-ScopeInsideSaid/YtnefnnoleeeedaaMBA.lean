/- Mathematics: of a text, all tokens of a local stand in the item that binds it; nothing is free there. -/
import Derived.Test.YtnefnnoleeeedaaMAZ
import Derived.Test.YtnefnnoleeeedaaMAL
import Derived.Test.YtnefnnoleeeedaaMAW
namespace Go.Proofs.Ytnefnnoleeeedaa
open Go.RowKit Go.Op
namespace Sc
open Vm

open Ps Pg
def NoLoc (bs : List Bd) (v : Int) : Prop := ∀ i : Nat, v = (i : Int) → ∀ b, bs[i]? = some b → ¬ 2 < b.kind
theorem NoLoc.ext {bs l : List Bd} {v : Int} (h : NoLoc bs v) (hv : v < (bs.length : Int)) : NoLoc (bs ++ l) v := fun i e b hb => by
  rw [ext_get (by omega)] at hb
  exact h i e b hb
/-- Between items. -/
structure Out0 (In : Int → Int → Prop) (len : Int) (s : St) : Prop where
  bd : ∀ b ∈ s.bs, Bok In len b
  mn : ∀ u ∈ s.ms, Mok In s.bs u
  me : ∀ x, s.means x < (s.bs.length : Int) ∧ NoLoc s.bs (s.means x)
  he : ∀ x v, s.here x = some v → v < (s.bs.length : Int) ∧ NoLoc s.bs v
variable {In : Int → Int → Prop} {len : Int}
theorem Out0.inv {s : St} (h : Out0 In len s) (q p : Int) : Inv In len q p { s with item := q } :=
  ⟨rfl, h.bd, h.mn, fun x => ⟨(h.me x).1, fun i e b hb hk => absurd hk ((h.me x).2 i e b hb)⟩, fun x v e => ⟨(h.he x v e).1, fun i e' b hb hk => absurd hk ((h.he x v e).2 i e' b hb)⟩⟩
theorem Out0.item {s : St} (h : Out0 In len s) (q : Int) : Out0 In len { s with item := q } := ⟨h.bd, h.mn, h.me, h.he⟩
theorem Out0.bind {s : St} (h : Out0 In len s) (a : Int) (wd : ByteArray) (kd : Int) (hq : 0 ≤ s.item ∧ s.item < len) (hk : kd = 1 ∨ kd = 2) : Out0 In len (bind a wd kd s) := by
  obtain ⟨e1, e2, e3, e4⟩ := bind0_bs a wd s
  have eb : (Sc.bind a wd kd s).bs = s.bs ++ [⟨a, kd, wd, s.item⟩] := rfl
  have hl : (Sc.bind a wd kd s).bs.length = s.bs.length + 1 := by rw [eb]; simp
  refine ⟨fun b hb => ?_, fun u hu => ?_, fun x => ?_, fun x v e => ?_⟩
  · rw [eb] at hb
    rcases List.mem_append.1 hb with hb | hb
    · exact h.bd b hb
    · rw [List.mem_singleton] at hb
      subst hb
      refine ⟨.inl (by unfold isItem; rcases hk with rfl | rfl <;> rfl), hq.1, hq.2, fun hh => ?_⟩
      have hh' : 2 < kd := hh
      omega
  · rw [eb]
    exact (h.mn u (by rw [← e2]; exact hu)).ext
  · rw [hl, eb]
    show (if x = wd then (s.bs.length : Int) else s.means x) < _ ∧ NoLoc _ (if x = wd then (s.bs.length : Int) else s.means x)
    by_cases hx : x = wd
    · rw [if_pos hx]
      refine ⟨by omega, fun i e b hb hbk => ?_⟩
      have : i = s.bs.length := by omega
      subst this
      rw [List.getElem?_append_right (Nat.le_refl _)] at hb
      simp at hb
      subst hb
      have hh' : 2 < kd := hbk
      omega
    · rw [if_neg hx]
      exact ⟨by have := (h.me x).1; omega, (h.me x).2.ext (h.me x).1⟩
  · have hv : v < (s.bs.length : Int) ∧ NoLoc s.bs v := by
      have e' : (bind0 a wd s).here x = some v := e
      unfold bind0 at e'
      split at e'
      · exact h.he x v e'
      · have e2 : (if x = wd then some (s.means wd) else s.here x) = some v := e'
        by_cases hx : x = wd
        · rw [if_pos hx] at e2
          injection e2 with e2
          rw [← e2]
          exact h.me wd
        · rw [if_neg hx] at e2
          exact h.he x v e2
    rw [hl, eb]
    exact ⟨by have := hv.1; omega, hv.2.ext hv.1⟩
/-- Does a token stand in that item? -/
def InK (K : Tr) (q n : Int) : Prop := ∃ (j : Nat) (h : Hi) (kk r : Tr), q = (j : Int) ∧ K.drop j = .cons h kk r ∧ h.fro ≤ n ∧ n < h.til
theorem drop_lt {K : Tr} {i : Nat} {h : Hi} {k r : Tr} (e : K.drop i = .cons h k r) : i < K.len := by
  by_cases hh : i < K.len
  · exact hh
  · rw [Tr.drop_len K i (by omega)] at e
    cases e
theorem binds_out {K : Tr} : ∀ (k : Tr) (i : Nat) (s : St), K.drop i = k → Out0 (InK K) K.len s → Out0 (InK K) K.len (binds i k s)
  | .nil, i, s, _, hs => by rw [binds]; exact hs
  | .cons h k r, i, s, e, hs => by
    rw [binds]
    have hi := drop_lt e
    refine binds_out r (i + 1) _ (Tr.drop_succ i K e) ?_
    unfold bind1
    split
    · exact (hs.item _).bind _ _ 1 ⟨by show 0 ≤ (i : Int); omega, by show (i : Int) < _; omega⟩ (.inl rfl)
    · split
      · exact (hs.item _).bind _ _ 2 ⟨by show 0 ≤ (i : Int); omega, by show (i : Int) < _; omega⟩ (.inr rfl)
      · exact hs.item _
theorem items_out {l : List Tok} {K : Tr} : ∀ (k : Fo) (i a t : Nat) (s : St), Apt l k a t → Its k → K.drop i = tr k → Out0 (InK K) K.len s → Out0 (InK K) K.len (items i (tr k) s)
  | .nil, i, a, t, s, _, _, _, hs => by rw [tr, items]; exact hs
  | .cons h k r, i, a, t, s, ⟨h1, h2, h3, h4, h5⟩, ⟨g1, g2⟩, e, hs => by
    rw [tr] at e
    rw [tr, items]
    have h0 : h.kind ≠ 0 := by omega
    have hi := drop_lt e
    rw [if_neg h0] at h5
    refine items_out r (i + 1) h.til t _ h5 g2 (Tr.drop_succ i K e) ?_
    unfold nodeOK at h1
    rw [if_neg h0] at h1
    obtain ⟨k1, k2, k3, _⟩ := h1
    unfold node
    by_cases c2 : h.kind = 2
    · rw [if_pos (by simp only [hi_]; omega)]
      exact hs.item _
    · rw [if_neg (by simp only [hi_]; omega), if_pos (by simp only [hi_]; omega)]
      obtain ⟨j1, j2⟩ := nodes_inv (In := InK K) (len := K.len) (q := i) ⟨by omega, by omega⟩ k h.fro h.til (enter 0 { s with item := (i : Int) }) (h4 h0 c2) k3 (fun n n1 n2 => ⟨i, hi_ h, tr k, tr r, rfl, e, by simp only [hi_]; omega, by simp only [hi_]; omega⟩) ((hs.inv (i : Int) h.fro).enter 0)
      obtain ⟨m1, m2⟩ := leave_means (l := 0) (s := { s with item := (i : Int) }) (t := nodes (tr k) (enter 0 { s with item := (i : Int) })) (base_nodes _ _)
      obtain ⟨m, hm⟩ := j2
      have hm' : (nodes (tr k) (enter 0 { s with item := (i : Int) })).bs = s.bs ++ m := hm
      refine ⟨j1.bd, j1.mn, fun x => ?_, fun x v ev => ?_⟩
      · rw [m1]
        show s.means x < ((nodes (tr k) (enter 0 { s with item := (i : Int) })).bs.length : Int) ∧ NoLoc (nodes (tr k) (enter 0 { s with item := (i : Int) })).bs (s.means x)
        rw [hm']
        exact ⟨by rw [List.length_append]; have := (hs.me x).1; omega, (hs.me x).2.ext (hs.me x).1⟩
      · rw [m2] at ev
        have hv := hs.he x v ev
        show v < ((nodes (tr k) (enter 0 { s with item := (i : Int) })).bs.length : Int) ∧ NoLoc (nodes (tr k) (enter 0 { s with item := (i : Int) })).bs v
        rw [hm']
        exact ⟨by rw [List.length_append]; have := hv.1; omega, hv.2.ext hv.1⟩
theorem file_out {l : List Tok} {K : Fo} {t : Nat} (ha : Apt l K 0 t) (hi : Its K) : (∀ b ∈ (file (tr K)).bs, Bok (InK (tr K)) (tr K).len b) ∧ ∀ u ∈ (file (tr K)).ms, Mok (InK (tr K)) (file (tr K)).bs u := by
  have h0 : Out0 (InK (tr K)) (tr K).len (enter 0 .none) := ⟨fun b hb => (nomatch hb), fun u hu => (nomatch hu), fun x => ⟨(by show (-1 : Int) < 0; omega), fun i e => (by have e' : (-1 : Int) = i := e; omega)⟩, fun x v e => (nomatch e)⟩
  have h2 := items_out K 0 0 t _ ha hi (Tr.drop_zero _) (binds_out (tr K) 0 _ (Tr.drop_zero _) h0)
  exact ⟨h2.bd, h2.mn⟩
/-- Items' tokens are apart. -/
theorem span_lo {l : List Tok} : ∀ (k : Fo) (a t j : Nat) (h : Hi) (kk r : Tr), Apt l k a t → Its k → (tr k).drop j = .cons h kk r → (a : Int) ≤ h.fro
  | .nil, _, _, j, _, _, _, _, _, e => by rw [tr, Tr.drop_nil] at e; cases e
  | .cons h0 k0 r0, a, t, 0, h, kk, r, ⟨h1, _, _, _, _⟩, ⟨g1, _⟩, e => by
    rw [Tr.drop_zero, tr] at e
    injection e with e1 _ _
    unfold nodeOK at h1
    rw [if_neg (by omega)] at h1
    rw [← e1]
    simp only [hi_]
    omega
  | .cons h0 k0 r0, a, t, j + 1, h, kk, r, ⟨h1, _, _, _, h5⟩, ⟨g1, g2⟩, e => by
    rw [if_neg (by omega)] at h5
    rw [tr, Tr.drop] at e
    have := span_lo r0 h0.til t j h kk r h5 g2 e
    unfold nodeOK at h1
    rw [if_neg (by omega)] at h1
    omega
theorem span_lt {l : List Tok} : ∀ (k : Fo) (a t i j : Nat) (h h' : Hi) (kk kk' r r' : Tr), Apt l k a t → Its k → i < j → (tr k).drop i = .cons h kk r → (tr k).drop j = .cons h' kk' r' → h.til ≤ h'.fro
  | .nil, _, _, i, _, _, _, _, _, _, _, _, _, _, e, _ => by rw [tr, Tr.drop_nil] at e; cases e
  | .cons h0 k0 r0, a, t, i, j, h, h', kk, kk', r, r', ⟨_, _, _, _, h5⟩, ⟨g1, g2⟩, hij, e, e' => by
    rw [if_neg (by omega)] at h5
    obtain ⟨j', rfl⟩ : ∃ j', j = j' + 1 := ⟨j - 1, by omega⟩
    rw [tr, Tr.drop] at e'
    by_cases hi : i = 0
    · subst hi
      rw [Tr.drop_zero, tr] at e
      injection e with e1 _ _
      have := span_lo r0 h0.til t j' h' kk' r' h5 g2 e'
      rw [← e1]
      exact this
    · obtain ⟨i', rfl⟩ : ∃ i', i = i' + 1 := ⟨i - 1, by omega⟩
      rw [tr, Tr.drop] at e
      exact span_lt r0 h0.til t i' j' h h' kk kk' r r' h5 g2 (by omega) e e'
theorem in_uniq {l : List Tok} {K : Fo} {t : Nat} (ha : Apt l K 0 t) (hi : Its K) {p q n : Int} (h1 : InK (tr K) p n) (h2 : InK (tr K) q n) : p = q := by
  obtain ⟨i, h, kk, r, rfl, e, a1, a2⟩ := h1
  obtain ⟨j, h', kk', r', rfl, e', b1, b2⟩ := h2
  by_cases c1 : i < j
  · have := span_lt K 0 t i j h h' kk kk' r r' ha hi c1 e e'; omega
  · by_cases c2 : j < i
    · have := span_lt K 0 t j i h' h kk' kk r' r ha hi c2 e' e; omega
    · omega
theorem noout_item {l : List Tok} {K : Fo} {t : Nat} (ha : Apt l K 0 t) (hi : Its K) {j : Nat} {h : Hi} {kk r : Tr} (e : (tr K).drop j = .cons h kk r) : NoOut h.fro h.til (file (tr K)).bs (file (tr K)).ms := by
  intro u hu u1 u2 i ei x hx
  obtain ⟨f1, f2⟩ := file_out ha hi
  have bx := f1 x (List.mem_of_getElem? hx)
  unfold outB
  rcases bx.1 with b1 | b1
  · rw [b1]; rfl
  · obtain ⟨_, k2⟩ := f2 u hu
    obtain ⟨m1, m2⟩ := k2 i ei x hx b1
    have hq : x.item = (j : Int) := in_uniq ha hi m2 ⟨j, h, kk, r, rfl, e, u1, u2⟩
    have hx2 := bx.2.2.2 b1
    rw [hq] at hx2
    obtain ⟨j', h', kk', r', ej, e', c1, c2⟩ := hx2
    have : j' = j := by omega
    subst this
    rw [e] at e'
    injection e' with e1 _ _
    rw [← e1] at c1 c2
    simp
    intro _
    omega
end Sc
end Go.Proofs.Ytnefnnoleeeedaa
/- Mathematics: what is known of a text's tree and of its names. -/
namespace Go.Proofs.Ytnefnnoleeeedaa
open Go.RowKit Go.Op
namespace Sc
open Vm

open Ps Pg Sb
theorem lexF_len (s : ByteArray) : ∀ (f k n : Nat) (l : List Tok), n ≤ 4000 → lexF s f k n = .good l → n + l.length ≤ 4000
  | 0, _, _, _, _, h => by rw [lexF] at h; cases h
  | f + 1, k, n, l, hn, h => by
    rw [lexF] at h
    split at h
    · cases h
    · split at h
      · cases h
      · split at h
        · injection h with h
          rw [← h]
          simp
          omega
        · cases e : lexF s f (endK s k) (n + 1) with
          | bad a b => rw [e] at h; cases h
          | good m =>
            rw [e] at h
            have h' : [tokK s k] ++ m = l := by injection h
            have := lexF_len s f _ _ m (by omega) e
            rw [← h']
            simp
            omega
theorem tok_size (s : ByteArray) (k : Nat) : (tokK s k).text.size ≤ s.size := by
  unfold tokK
  simp only [ByteArray.size_extract]
  omega
theorem lex_facts {s : ByteArray} {l : List Tok} (h : lexR s = .good l) : l.length ≤ 4000 ∧ ∀ j, (textAt l j).size ≤ 16384 := by
  unfold lexR at h
  split at h
  · cases h
  · rename_i hs
    split at h
    · cases h
    · refine ⟨by have := lexF_len s _ _ _ l (by omega) h; omega, fun j => ?_⟩
      unfold textAt
      cases e : l[j]? with
      | none => decide
      | some t =>
        obtain ⟨k, rfl, _⟩ := lexF_mem s _ _ _ _ h t (List.mem_of_getElem? e)
        have := tok_size s k
        show (tokK s k).text.size ≤ 16384
        omega
theorem words_apt {l : List Tok} (hw : ∀ j, (textAt l j).size ≤ 16384) : ∀ (k : Fo) (a t : Nat), Apt l k a t → wordsOk k
  | .nil, _, _, _ => trivial
  | .cons h k r, a, t, ⟨h1, h2, h3, h4, h5⟩ => by
    have e0m : e0.size ≤ maxLen := by decide
    have m16 : (16384 : Nat) ≤ maxLen := by decide
    unfold nodeOK at h1
    refine ⟨?_, ?_, words_apt hw r _ t h5⟩
    · split at h1
      · rw [h1.2.2]; exact e0m
      · rcases h1.2.2.2 with ⟨e, _⟩ | ⟨⟨j, e⟩, _⟩
        · rw [e]; exact e0m
        · rw [e]; exact Nat.le_trans (hw j) m16
    · by_cases c0 : h.kind = 0
      · rw [h2 c0]; exact trivial
      · by_cases c2 : h.kind = 2
        · have hu := h3 c2
          cases k with
          | nil => exact trivial
          | cons hk kk rk =>
            obtain ⟨u1, u2, j, u3⟩ := hu
            subst u1 u2
            exact ⟨by rw [u3]; exact Nat.le_trans (hw j) m16, trivial, trivial⟩
        · exact words_apt hw k _ _ (h4 c0 c2)
theorem fc_tr : ∀ k : Fo, (tr k).cnt = fc k
  | .nil => rfl
  | .cons h k r => by rw [tr, Tr.cnt, fc, fc_tr k, fc_tr r]
/-- What is known of a text's tree. -/
theorem of_facts {s : ByteArray} {l : List Tok} {h : Hd} {k : Fo} (hof : ofM s = .ok l h k) : h.kind = 1 ∧ (∃ t, Apt l k 0 t) ∧ Its k ∧ fc k ≤ 16000 ∧ wordsOk k := by
  unfold ofM at hof
  cases hl : lexR s with
  | bad a b => rw [hl] at hof; cases hof
  | good l' =>
    rw [hl] at hof
    dsimp only at hof
    cases hp : parseM l' with
    | bad a b => rw [hp] at hof; cases hof
    | ok h' k' =>
      rw [hp] at hof
      dsimp only at hof
      injection hof with e1 e2 e3
      subst e1 e2 e3
      obtain ⟨f1, f2⟩ := lex_facts hl
      have W := (lexR_wf hl f1).toWf
      obtain ⟨q, hq, hlt⟩ := items_some W
      unfold parseM at hp
      rw [hq] at hp
      dsimp only at hp
      unfold wholeM at hp
      split at hp
      · cases hp
      · rename_i hg
        dsimp only at hg
        split at hp
        · cases hp
        · simp only [Fo.one] at hp
          split at hp
          · cases hp
          · injection hp with h1 h2
            subst h1 h2
            have hq2 : q.2.2 < 0 := by omega
            obtain ⟨a1, a2, _⟩ := items_apt _ _ _ _ hq hq2
            have hc := items_cnt _ _ _ _ hq hq2
            have := hlt hq2
            exact ⟨rfl, ⟨_, a1⟩, items_its _ _ _ _ hq, by omega, words_apt f2 _ _ _ a1⟩
theorem uses_mem {s : St} {i : Nat} {t : Int} (h : t ∈ usesS s i) : t = ((s.bs[i]?).map Bd.at_).getD 0 ∨ ∃ u ∈ s.ms, u.to = (i : Int) ∧ t = u.at_ := by
  have h' : t ∈ usesL s i := List.mem_mergeSort.1 h
  unfold usesL at h'
  rcases List.mem_cons.1 h' with h' | h'
  · exact .inl h'
  · obtain ⟨u, hu, rfl⟩ := List.mem_map.1 h'
    obtain ⟨u1, u2⟩ := List.mem_filter.1 hu
    exact .inr ⟨u, u1, by simpa using u2, rfl⟩
/-- All tokens of a local stand in its item, none ahead of its own. -/
theorem uses_in {l : List Tok} {K : Fo} {t : Nat} (ha : Apt l K 0 t) (hi : Its K) {i : Nat} {b : Bd} (hb : (file (tr K)).bs[i]? = some b) {j : Nat} {h : Hi} {kk r : Tr} (e : (tr K).drop j = .cons h kk r) (hj : b.item = (j : Int)) (hk : 2 < b.kind) {n : Int} (hn : n ∈ usesS (file (tr K)) i) :
    b.at_ ≤ n ∧ h.fro ≤ n ∧ n < h.til := by
  obtain ⟨f1, f2⟩ := file_out ha hi
  have bx := f1 b (List.mem_of_getElem? hb)
  have get : ∀ m : Int, InK (tr K) b.item m → h.fro ≤ m ∧ m < h.til := fun m hm => by
    rw [hj] at hm
    obtain ⟨j', h', kk', r', ej, e', c1, c2⟩ := hm
    have : j' = j := by omega
    subst this
    rw [e] at e'
    injection e' with e1 _ _
    rw [← e1] at c1 c2
    exact ⟨c1, c2⟩
  rcases uses_mem hn with hn | ⟨u, hu, eu, en⟩
  · rw [hb] at hn
    have hn' : n = b.at_ := hn
    rw [hn']
    have := get _ (bx.2.2.2 hk)
    exact ⟨by omega, this.1, this.2⟩
  · obtain ⟨m1, m2⟩ := (f2 u hu).2 i eu b hb hk
    rw [en]
    have := get _ m2
    exact ⟨m1, this.1, this.2⟩
end Sc
end Go.Proofs.Ytnefnnoleeeedaa
/- The walk of the law on what stands inside. -/
namespace Go.Proofs.Ytnefnnoleeeedaa
open Go.RowKit Go.Op
namespace Sc
open Vm

open Ps Pg Sb
theorem of_bad {s : ByteArray} {e a : Int} (h : ofM s = .bad e a) : e ≠ 0 := by
  unfold ofM at h
  cases hx : lexR s with
  | bad e' a' =>
    rw [hx] at h
    injection h with h1 h2
    rw [← h1]
    exact lexR_bad hx
  | good l =>
    rw [hx] at h
    dsimp only at h
    cases hp : parseM l with
    | ok h' k' => rw [hp] at h; cases h
    | bad e' a' =>
      rw [hp] at h
      injection h with h1 h2
      have hle : l.length ≤ 4000 := (lex_facts hx).1
      have := parse_bad (lexR_wf hx hle) hp
      omega
/-- What stays while the law looks at each binding. -/
structure La (w W : World) (b4 b7 : Nat) (lo hi : Nat) (K : Fo) (fro til at_ : Int) (wd : ByteArray) (A : Option Addr) (n c : Nat) (B1 B2 B3 : Option Addr) (n1 n2 n3 d1 d2 d3 : Nat) (st : St) : Prop where
  r4 : RowB W b4 25 #[.int .i64 1, .int .i64 fro, .int .i64 til, .string wd, .int .i64 at_, .slice A n c]
  r7 : RowB W b7 34 #[.slice B1 n1 d1, .slice B2 n2 d2, .slice B3 n3 d3]
  h1 : RowAt W lo hi bdC 4 B1 st.bs
  h2 : RowAt W lo hi mnC 4 B2 st.ms
  hh : hi ≤ W.heap.size
  tv : ∃ B, B ≤ W.heap.size ∧ TV W B (tr K) A c
  be : Below w.heap.size w W
theorem La.below {w W W' : World} {b4 b7 : Nat} {lo hi : Nat} {K : Fo} {fro til at_ : Int} {wd : ByteArray} {A : Option Addr} {n c : Nat} {B1 B2 B3 : Option Addr} {n1 n2 n3 d1 d2 d3 : Nat} {st : St} (h : La w W b4 b7 lo hi K fro til at_ wd A n c B1 B2 B3 n1 n2 n3 d1 d2 d3 st) (hb : Below W.heap.size W W') :
    La w W' b4 b7 lo hi K fro til at_ wd A n c B1 B2 B3 n1 n2 n3 d1 d2 d3 st := by
  obtain ⟨B, hB, ht⟩ := h.tv
  exact ⟨h.r4.below hb h.r4.lt, h.r7.below hb h.r7.lt, h.h1.keep fun g _ k => hb.block g (by have := h.hh; omega), h.h2.keep fun g _ k => hb.block g (by have := h.hh; omega), Nat.le_trans h.hh hb.size, ⟨B, Nat.le_trans hB hb.size, ht.keep fun g hg => hb.block g (by omega)⟩, h.be.trans (hb.mono h.be.size)⟩
set_option maxHeartbeats 8000000 in
set_option maxRecDepth 100000 in
theorem inside_walk (s : ByteArray) (hs : (s.size : Int) ≤ 9223372036854775807) (w : World) : Calls Try.prog 6 #[.string s] w fun e w' => e = .returned (.bool true) ∧ Below w.heap.size w w' := by
  have CO := Lib.hid (Pg.rof_any s hs w)
  go_enter Try.func6, Try.ntmps6
  go_wp2_with fail
  refine CO.out.mono ?_
  rintro e w1 ⟨hb, ho⟩
  cases hof : ofM s with
  | bad er a =>
    rw [hof] at ho
    have he : er ≠ 0 := of_bad hof
    have he' : (er != 0) = true := by rw [bne_iff_ne]; exact he
    have ho' : e = .returned (.tuple #[.slice none 0 0, nv0, .int .i64 er, .int .i64 a]) := ho
    subst ho'
    obtain ⟨W2, hW2⟩ : ∃ W2, W2 = w1.alloc (.cells #[.int .i64 0, .int .i64 0, .int .i64 0, .string ⟨#[]⟩, .int .i64 0, .slice none 0 0] 25) := ⟨_, rfl⟩
    have HB2 := Lib.hid (show Below w.heap.size w W2 by rw [hW2]; exact hb.alloc hb.size _)
    have HW2 := Lib.hid hW2
    have CA := Lib.hid (awake_any W2)
    clear hb hof he CO hW2 ho
    go_wp2_with fail
    rw [← HW2.out]
    refine CA.out.mono ?_
    rintro e w3 ⟨rfl, hb3⟩
    have HB3 := Lib.hid (HB2.out.trans (hb3.mono HB2.out.size))
    clear hb3 CA HW2
    go_wp2_with fail
    (first | go_ret | go_ret2)
    exact ⟨by first | rfl | simp, HB3.out⟩
  | ok l h k =>
    rw [hof] at ho
    obtain ⟨AL, cL, A, c, rfl, _, _, hk⟩ := ho
    obtain ⟨f1, ⟨t, f2⟩, f3, f4, f5⟩ := of_facts hof
    obtain ⟨kd, fro, til, wd, at_⟩ := h
    simp only at f1
    subst f1
    obtain ⟨W2, hW2⟩ : ∃ W2, W2 = w1.alloc (.cells #[.int .i64 1, .int .i64 fro, .int .i64 til, .string wd, .int .i64 at_, .slice A k.len c] 25) := ⟨_, rfl⟩
    have B2 : Below w.heap.size w W2 := by rw [hW2]; exact hb.alloc hb.size _
    have hk2 : TV W2 W2.heap.size (tr k) A c := by
      rw [hW2]
      exact tv_of (fun g _ hg => hg) f5 (hk.below (belA w1 _))
    have r4 : RowB W2 w1.heap.size 25 #[.int .i64 1, .int .i64 fro, .int .i64 til, .string wd, .int .i64 at_, .slice A k.len c] := by rw [hW2]; exact RowB.new w1 25 _
    have CP := Lib.hid (of_any (hi_ ⟨1, fro, til, wd, at_⟩) (tr k) A c hk2 (by rw [fc_tr]; omega))
    rw [tr_len] at CP
    obtain ⟨st, hst⟩ : ∃ st, st = file (tr k) := ⟨_, rfl⟩
    have hof2 : ofS (hi_ ⟨1, fro, til, wd, at_⟩) (tr k) = st := by rw [hst]; rfl
    rw [hof2] at CP
    simp only [hvv, hi_] at CP
    have HST := Lib.hid hst
    have HA := Lib.hid f2
    have HI := Lib.hid f3
    have HF := Lib.hid (file_out f2 f3)
    rw [← hst] at HF
    obtain ⟨n, hn⟩ : ∃ n, n = k.len := ⟨_, rfl⟩
    have HNK := Lib.hid hn
    rw [← hn] at CP r4 hW2 ⊢
    have HTV := Lib.hid hk2
    have HB2 := Lib.hid B2
    have HW2 := Lib.hid hW2
    have HR4 := Lib.hid r4
    have CP : Hid (Calls Try.prog 10 #[.agg #[.int .i64 1, .int .i64 fro, .int .i64 til, .string wd, .int .i64 at_, .slice A n c]] W2 (OfA W2 st)) := CP.out
    obtain ⟨b4, hb4⟩ : ∃ b4, b4 = w1.heap.size := ⟨_, rfl⟩
    have HB4 := Lib.hid hb4
    rw [← hb4] at HR4
    clear hb hk hk2 B2 hW2 r4 hst hof2 hof CO f2 f3 f4 f5 hn hb4
    go_wp2_with fail
    rw [← HW2.out]
    refine CP.out.mono ?_
    rintro e w3 ⟨B1, d1, B2, d2, B3, d3, l3, rfl, _, hr1, hr2, _, _, _, _, hbd, hb3⟩
    obtain ⟨n1, hn1⟩ : ∃ n1, n1 = st.bs.length := ⟨_, rfl⟩
    obtain ⟨n2, hn2⟩ : ∃ n2, n2 = st.ms.length := ⟨_, rfl⟩
    obtain ⟨n3, hn3⟩ : ∃ n3, n3 = st.bad.length := ⟨_, rfl⟩
    have HN := Lib.hid (show n1 = st.bs.length ∧ n2 = st.ms.length ∧ n3 = st.bad.length from ⟨hn1, hn2, hn3⟩)
    rw [← hn1, ← hn2, ← hn3]
    rw [← hn1, ← hn2, ← hn3] at hbd
    obtain ⟨W4, hW4⟩ : ∃ W4, W4 = w3.alloc (.cells #[.slice B1 n1 d1, .slice B2 n2 d2, .slice B3 n3 d3] 34) := ⟨_, rfl⟩
    have b34 : Below w3.heap.size w3 W4 := by rw [hW4]; exact belA w3 _
    have b24 : Below W2.heap.size W2 W4 := hb3.trans (b34.mono hb3.size)
    have HL := Lib.hid (show La w W4 b4 w3.heap.size W2.heap.size w3.heap.size k fro til at_ wd A n c B1 B2 B3 n1 n2 n3 d1 d2 d3 st from
      ⟨HR4.out.below b24 HR4.out.lt, by rw [hW4]; exact RowB.new w3 34 _, hr1.keep fun g _ k => b34.block g k, hr2.keep fun g _ k => b34.block g k, b34.size, ⟨W2.heap.size, b24.size, HTV.out.keep (Old.of b24)⟩, HB2.out.trans (b24.mono HB2.out.size)⟩)
    obtain ⟨b7, hb7⟩ : ∃ b7, b7 = w3.heap.size := ⟨_, rfl⟩
    have HB7 := Lib.hid hb7
    obtain ⟨lo, hlo⟩ : ∃ lo, lo = W2.heap.size := ⟨_, rfl⟩
    obtain ⟨hi, hhi⟩ : ∃ hi, hi = w3.heap.size := ⟨_, rfl⟩
    rw [← hlo] at HL
    have HL : Hid (La w W4 b4 b7 lo hi k fro til at_ wd A n c B1 B2 B3 n1 n2 n3 d1 d2 d3 st) := by rw [hhi, hb7]; exact HL
    have HW4 := Lib.hid hW4
    have y7 := HL.out.r7.cell
    rw [hb7] at y7
    have y7' := y7
    rw [hW4] at y7'
    clear hr1 hr2 hb3 CP HW2 hn1 hn2 hn3 b34 b24 hb7 hlo hhi HTV HB2 HR4 hW4
    go_wp2_with fail
    clear y7 y7'
    rw [← HB4.out]
    try rw [← HB7.out]
    try rw [← HW4.out]
    go_loopg [28] (n1 + 1) (fun kx s28 wr => ∃ (i : Nat), s28 = .int .i64 i ∧ n1 - i ≤ kx ∧ i ≤ n1 ∧ Hid (La w wr b4 b7 lo hi k fro til at_ wd A n c B1 B2 B3 n1 n2 n3 d1 d2 d3 st))
    case atStart => exact ⟨0, rfl, by omega, by omega, HL.out⟩
    case round =>
      clear HL
      obtain ⟨i, rfl, hkx, hin, HX⟩ := hrel
      by_cases hi1 : i < n1
      · have hil : (i : Int) < (n1 : Int) := by omega
        obtain ⟨b, hb⟩ : ∃ b, st.bs[i]? = some b := ⟨st.bs[i]'(by have := HN.out; omega), List.getElem?_eq_getElem _⟩
        have hbk := HF.out.1 b (List.mem_of_getElem? hb)
        obtain ⟨j, hj⟩ : ∃ j : Nat, b.item = (j : Int) := ⟨b.item.toNat, by have := hbk.2.1; omega⟩
        have hjn : j < n := by have h1 := hbk.2.2.1; rw [tr_len] at h1; have := HNK.out; omega
        have hjl : (j : Int) < (n : Int) := by omega
        obtain ⟨h', kk', e'⟩ := Tr.drop_cons (tr k) j (by rw [tr_len]; have := HNK.out; omega)
        have HNO : Hid (NoOut h'.fro h'.til st.bs st.ms) := by rw [HST.out]; exact noout_item HA.out HI.out e'
        have HUI : Hid (2 < b.kind → ∀ m ∈ usesS st i, b.at_ ≤ m ∧ h'.fro ≤ m ∧ m < h'.til) := by
          have hbs := hb
          rw [HST.out] at hbs
          unfold Hid
          rw [HST.out]
          exact fun hk2 m hm => uses_in HA.out HI.out hbs e' hj hk2 hm
        obtain ⟨TB, hTB, hTV⟩ := HX.out.tv
        obtain ⟨_, g, o, A2, c2, eA, hgB, _, x0, x1, x2, x3, x4, x5⟩ := hTV.nth e'
        subst eA
        obtain ⟨gb, eB, _, hgb, hcb⟩ := HX.out.h1 (by have := HN.out; omega)
        subst eB
        have z0 : wr.cell? ⟨gb, i * 4, none⟩ = some (.int .i64 b.at_) := hcb i b hb 0 _ rfl
        have z1 : wr.cell? ⟨gb, i * 4 + 1, none⟩ = some (.int .i64 b.kind) := hcb i b hb 1 _ rfl
        have z2 : wr.cell? ⟨gb, i * 4 + 2, none⟩ = some (.string b.word) := hcb i b hb 2 _ rfl
        have z3 : wr.cell? ⟨gb, i * 4 + 3, none⟩ = some (.int .i64 b.item) := hcb i b hb 3 _ rfl
        have hgw : g < wr.heap.size := by omega
        rw [hj] at z3
        obtain ⟨ba, bk, bw, bi⟩ := b
        obtain ⟨hk', hf', ht', hw', ha'⟩ := h'
        simp only at *
        obtain ⟨W5, hW5⟩ : ∃ W5, W5 = wr.alloc (.cells #[.int .i64 ba, .int .i64 bk, .string bw, .int .i64 (j : Int)] 45) := ⟨_, rfl⟩
        obtain ⟨W6, hW6⟩ : ∃ W6, W6 = W5.alloc (.cells #[.int .i64 hk', .int .i64 hf', .int .i64 ht', .string hw', .int .i64 ha', .slice A2 kk'.len c2] 25) := ⟨_, rfl⟩
        have b5 : Below wr.heap.size wr W5 := by rw [hW5]; exact belA wr _
        have b6 : Below W5.heap.size W5 W6 := by rw [hW6]; exact belA W5 _
        have R9 : RowB W5 wr.heap.size 45 #[.int .i64 ba, .int .i64 bk, .string bw, .int .i64 (j : Int)] := by rw [hW5]; exact RowB.new wr 45 _
        have HR9 := Lib.hid (R9.below b6 R9.lt)
        have HR10 := Lib.hid (show RowB W6 W5.heap.size 25 #[.int .i64 hk', .int .i64 hf', .int .i64 ht', .string hw', .int .i64 ha', .slice A2 kk'.len c2] by rw [hW6]; exact RowB.new W5 25 _)
        have HX6 := Lib.hid (HX.out.below (b5.trans (b6.mono b5.size)))
        have y4 := (HX.out.below b5).r4.cell
        have x0 : W5.cell? ⟨g, o + j * 6, none⟩ = _ := (b5.cell (p := ⟨g, o + j * 6, none⟩) hgw).trans x0
        have x1 : W5.cell? ⟨g, o + j * 6 + 1, none⟩ = _ := (b5.cell (p := ⟨g, o + j * 6 + 1, none⟩) hgw).trans x1
        have x2 : W5.cell? ⟨g, o + j * 6 + 2, none⟩ = _ := (b5.cell (p := ⟨g, o + j * 6 + 2, none⟩) hgw).trans x2
        have x3 : W5.cell? ⟨g, o + j * 6 + 3, none⟩ = _ := (b5.cell (p := ⟨g, o + j * 6 + 3, none⟩) hgw).trans x3
        have x4 : W5.cell? ⟨g, o + j * 6 + 4, none⟩ = _ := (b5.cell (p := ⟨g, o + j * 6 + 4, none⟩) hgw).trans x4
        have x5 : W5.cell? ⟨g, o + j * 6 + 5, none⟩ = _ := (b5.cell (p := ⟨g, o + j * 6 + 5, none⟩) hgw).trans x5
        have y7 := HX6.out.r7.cell
        have HW5 := Lib.hid hW5
        have HW6 := Lib.hid hW6
        have HB := Lib.hid hb
        rw [hW5] at y4 x0 x1 x2 x3 x4 x5
        rw [hW6, hW5] at y7
        clear hb hbk hj e' hTV hcb b5 b6 R9 hW5 hW6 HX
        have hj0 : decide ((j : Int) < 0) = false := decide_eq_false (by omega)
        have hj1 : decide ((n : Int) ≤ (j : Int)) = false := decide_eq_false (by omega)
        go_wp2_with fail
        have CU := uses_any (A3 := B3) (c1 := d1) (c2 := d2) (n3 := n3) (c3 := d3) (i := i) HX6.out.h1 HX6.out.h2 HX6.out.hh (by have := HN.out; omega) (by have := HN.out; omega) (by have := HN.out; omega)
        rw [← HN.out.1, ← HN.out.2.1] at CU
        rw [← HW5.out, ← HW6.out]
        refine CU.mono ?_
        rintro e w7 ⟨A5, c5, rfl, _, hr5, hb7⟩
        have HX7 := Lib.hid (HX6.out.below hb7)
        have HS9 := Lib.hid (HR9.out.below hb7 HR9.out.lt)
        have hs5 : W5.heap.size = wr.heap.size + 1 := by rw [HW5.out]; simp
        have HS10 := Lib.hid (HR10.out.below hb7 HR10.out.lt)
        rw [hs5] at HS10
        have HR5 := Lib.hid hr5
        obtain ⟨m5, hm5⟩ : ∃ m5, m5 = (usesS st i).length := ⟨_, rfl⟩
        rw [← hm5]
        have HM5 := Lib.hid hm5
        have hm5b : m5 ≤ 200000000 := by
          rw [hm5, uses_len]
          have h1 := found_len st i st.ms.length
          rw [found_all st i (Nat.le_refl _)] at h1
          have := HN.out
          omega
        obtain ⟨b9, hb9⟩ : ∃ b9, b9 = wr.heap.size := ⟨_, rfl⟩
        rw [← hb9] at HS9 HS10 ⊢
        clear CU hb7 hr5 hm5 hs5 x0 x1 x2 x3 x4 x5 y4 y7 z0 z1 z2 z3 HW5 HW6 HX6 HR9 HR10 hb9
        go_wp2_with fail
        go_loopg [54] (m5 + 1) (fun kx s54 wq => ∃ (p : Nat), s54 = .int .i64 p ∧ m5 - p ≤ kx ∧ p ≤ m5 ∧ Hid (Below w7.heap.size w7 wq))
        case atStart => exact ⟨0, rfl, by omega, by omega, Below.refl _ _⟩
        case round =>
          obtain ⟨p, rfl, hkp, hpm, HQ⟩ := hrel
          by_cases hp1 : p < m5
          · have hpl : (p : Int) < (m5 : Int) := by omega
            obtain ⟨tt, htt⟩ : ∃ tt, (usesS st i)[p]? = some tt := ⟨(usesS st i)[p]'(by have := HM5.out; omega), List.getElem?_eq_getElem _⟩
            obtain ⟨g5, e5, _, hg5, hc5⟩ := HR5.out (by have := HM5.out; omega)
            subst e5
            have u0 : wr.cell? ⟨g5, p, none⟩ = some (.int .i64 tt) := by
              have := hc5 p tt htt 0 _ rfl
              simp only [Nat.mul_one, Nat.add_zero] at this
              exact (HQ.out.cell (p := ⟨g5, p, none⟩) hg5).trans this
            have HIN := Lib.hid (fun hk2 => HUI.out hk2 tt (List.mem_of_getElem? htt))
            have y9 := (HS9.out.below HQ.out HS9.out.lt).cell
            have y10 := (HS10.out.below HQ.out HS10.out.lt).cell
            obtain ⟨p1, hp1'⟩ : ∃ p1, p1 = p + 1 := ⟨_, rfl⟩
            have HP1 := Lib.hid hp1'
            have ek : IntKind.i64.wrap ((p : Int) + 1) = (p1 : Int) := by rw [IntKind.wrap_i64]; omega
            clear htt hc5 hp1'
            by_cases hk2 : 2 < bk
            · obtain ⟨i1, i2, i3⟩ := HIN.out hk2
              have q1 : decide (tt < ba) = false := decide_eq_false (by omega)
              have q2 : decide (tt < hf') = false := decide_eq_false (by omega)
              have q3 : decide (ht' ≤ tt) = false := decide_eq_false (by omega)
              have q4 : decide (2 < bk) = true := decide_eq_true hk2
              clear i1 i2 i3 HIN
              go_wp2_with fail
              clear u0 y9 y10
              have hp1' := HP1.out
              go_roundg (m5 - p1)
              case measure => omega
              case rel => exact ⟨p1, rfl, by omega, by omega, HQ.out⟩
            · have q4 : decide (2 < bk) = false := decide_eq_false hk2
              go_wp2_with fail
              clear u0 y9 y10
              have hp1' := HP1.out
              go_roundg (m5 - p1)
              case measure => omega
              case rel => exact ⟨p1, rfl, by omega, by omega, HQ.out⟩
          · have hd1 : decide ((p : Int) < (m5 : Int)) = false := decide_eq_false (by omega)
            have HXq := Lib.hid (HX7.out.below HQ.out)
            have y7 := HXq.out.r7.cell
            have y10 := (HS10.out.below HQ.out HS10.out.lt).cell
            have CF := free_none (A3 := B3) (c1 := d1) (c2 := d2) (n3 := n3) (c3 := d3) hf' ht' HXq.out.h1 HXq.out.h2 HXq.out.hh (by have := HN.out; omega) (by have := HN.out; omega) HNO.out
            rw [← HN.out.1, ← HN.out.2.1] at CF
            have CF := Lib.hid CF
            obtain ⟨i1, hi1'⟩ : ∃ i1, i1 = i + 1 := ⟨_, rfl⟩
            have HI1 := Lib.hid hi1'
            have ek : IntKind.i64.wrap ((i : Int) + 1) = (i1 : Int) := by rw [IntKind.wrap_i64]; omega
            clear hi1'
            go_wp2_with fail
            refine CF.out.mono ?_
            rintro e w8 ⟨rfl, hb8⟩
            have HX8 := Lib.hid (HXq.out.below hb8)
            clear hb8 CF y7 y10
            go_wp2_with fail
            have hi1' := HI1.out
            go_roundg (n1 - i1)
            case measure => omega
            case rel => exact ⟨i1, rfl, by omega, by omega, HX8.out⟩
      · have hd1 : decide ((i : Int) < (n1 : Int)) = false := decide_eq_false (by omega)
        have CA := Lib.hid (awake_any wr)
        go_wp2_with fail
        refine CA.out.mono ?_
        rintro e w9 ⟨rfl, hb9⟩
        have HB9 := Lib.hid (HX.out.be.trans (hb9.mono HX.out.be.size))
        clear hb9 CA
        go_wp2_with fail
        (first | go_ret | go_ret2)
        exact ⟨by first | rfl | simp, HB9.out⟩
end Sc
end Go.Proofs.Ytnefnnoleeeedaa
