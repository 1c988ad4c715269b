import Derived.Test.YtiabkkdeonepgaaGreatDoorXD
import Derived.Test.YtiabkkdeonepgaaGreatDoorHL
import Derived.Test.YtiabkkdeonepgaaGreatDoorHP
import Derived.Test.YtiabkkdeonepgaaGreatDoorAGB
import Derived.Test.YtiabkkdeonepgaaGreatDoorHD
import Derived.Test.YtiabkkdeonepgaaGreatDoorXK
namespace Go.Proofs.YtiabkkdeonepgaaGreatDoor
namespace Ps
abbrev Bs := List UInt8
def Fo.kinds : Fo → List Nat
  | .nil => []
  | .cons h _ r => h.kind :: r.kinds
theorem Fo.kinds_app : ∀ a b : Fo, (a.app b).kinds = a.kinds ++ b.kinds
  | .nil, b => rfl
  | .cons h k r, b => by simp only [Fo.app, Fo.kinds, Fo.kinds_app r b, List.cons_append]
def cm : List (Nat × Bs) → Bs
  | [] => []
  | x :: l => x.2 ++ l.flatMap fun y => [44, 32] ++ y.2
def wrB (t : Nat × Bs) : Bs := if t.1 = 0 then [] else [58, 32] ++ t.2
def lineB (d : Nat) : Bs := 10 :: List.replicate (2 * d) 32
def linesB (d : Nat) (l : List (Nat × Bs)) : Bs := l.flatMap fun y => lineB d ++ y.2
def wB (h : Hd) : Bs := h.word.data.toList
def fnB : List (Nat × Bs) → Bs
  | [p, t, b] => p.2 ++ wrB t ++ [32] ++ b.2
  | _ => []
def signB (k : Nat) : Bs := if k = 14 then [60] else if k = 15 then [61, 61] else if k = 16 then [43] else if k = 17 then [45] else [42]
def nodeB (d : Nat) (h : Hd) (ks : List (Nat × Bs)) : Bs :=
  match h.kind with
  | 2 => match ks with
    | [m] => [117, 115, 101, 32] ++ m.2 ++ [46] ++ wB h ++ [59]
    | _ => []
  | 3 => [100, 101, 102, 32] ++ wB h ++ fnB ks
  | 4 => [40] ++ cm ks ++ [41]
  | 5 => match ks with
    | [t] => wB h ++ wrB t
    | _ => []
  | 6 => [123] ++ linesB (d + 1) ks ++ (if ks = [] then [] else lineB d) ++ [125]
  | 7 => match ks with
    | [t, e] => [108, 101, 116, 32] ++ wB h ++ wrB t ++ [32, 61, 32] ++ e.2 ++ [59]
    | _ => []
  | 8 => match ks with
    | [e] => wB h ++ [32, 61, 32] ++ e.2 ++ [59]
    | _ => []
  | 9 => match ks with
    | [c, b, o] => [105, 102, 32] ++ c.2 ++ [32] ++ b.2 ++ (if o.1 = 0 then [] else [32, 101, 108, 115, 101, 32] ++ o.2)
    | _ => []
  | 10 => match ks with
    | [c, b] => [119, 104, 105, 108, 101, 32] ++ c.2 ++ [32] ++ b.2
    | _ => []
  | 11 => match ks with
    | [e] => [112, 114, 105, 110, 116, 32] ++ e.2 ++ [59]
    | _ => []
  | 12 => match ks with
    | [e] => [114, 101, 116, 117, 114, 110, 32] ++ e.2 ++ [59]
    | _ => []
  | 13 => match ks with
    | [e] => e.2 ++ [59]
    | _ => []
  | 14 | 15 | 16 | 17 | 18 => match ks with
    | [a, b] => a.2 ++ ([32] ++ signB h.kind ++ [32]) ++ b.2
    | _ => []
  | 19 => match ks with
    | [a] => a.2 ++ [46] ++ wB h
    | _ => []
  | 20 => match ks with
    | a :: l => a.2 ++ [40] ++ cm l ++ [41]
    | _ => []
  | 21 | 22 | 23 => wB h
  | 24 => [105, 110, 112, 117, 116]
  | 25 => [40] ++ cm ks ++ [41]
  | 26 | 32 => [123] ++ cm ks ++ [125]
  | 27 | 33 => match ks with
    | [e] => wB h ++ [58, 32] ++ e.2
    | _ => []
  | 28 => [102, 110] ++ fnB ks
  | 29 => [105, 110, 116]
  | 30 => [115, 116, 114]
  | 31 => [100, 121, 110]
  | 34 => [102, 110, 40] ++ cm ks.dropLast ++ [41] ++ [58, 32] ++ (ks.getLast?.map Prod.snd).getD []
  | _ => []
def prt : Nat → Fo → List (Nat × Bs)
  | _, .nil => []
  | d, .cons h k r => (h.kind, nodeB d h (prt (if h.kind = 6 then d + 1 else d) k)) :: prt d r
def prN (d : Nat) (h : Hd) (k : Fo) : Bs := nodeB d h (prt (if h.kind = 6 then d + 1 else d) k)
theorem prt_app : ∀ (d : Nat) (a b : Fo), prt d (a.app b) = prt d a ++ prt d b
  | _, .nil, b => rfl
  | d, .cons h k r, b => by simp only [Fo.app, prt, prt_app d r b, List.cons_append]
theorem prt_one (d : Nat) (h : Hd) (k : Fo) : prt d (.one h k) = [(h.kind, prN d h k)] := rfl
theorem prt_kinds : ∀ (d : Nat) (a : Fo), (prt d a).map Prod.fst = a.kinds
  | _, .nil => rfl
  | d, .cons h k r => by simp only [prt, Fo.kinds, List.map_cons, prt_kinds d r]
def itemsB : Option Nat → List (Nat × Bs) → Bs
  | _, [] => []
  | a, x :: l => (if (a = some 3 ∨ (a.isSome ∧ x.1 = 3)) then [10] else []) ++ x.2 ++ [10] ++ itemsB (some x.1) l
def fileB (k : Fo) : Bs := itemsB none (prt 0 k)
def exK (k : Nat) : Prop := 14 ≤ k ∧ k ≤ 28 ∧ k ≠ 27
def tyK (k : Nat) : Prop := 29 ≤ k ∧ k ≤ 34 ∧ k ≠ 33
def hgt (k : Nat) : Nat := if k = 14 ∨ k = 15 then 3 else if k = 16 ∨ k = 17 then 2 else if k = 18 then 1 else 0
def up (m k : Nat) : Prop := exK k ∧ hgt k ≤ m
def nT (k : Nat) : Prop := k = 0 ∨ tyK k
theorem up.mono {m n k : Nat} (h : up m k) (hn : m ≤ n) : up n k := ⟨h.1, Nat.le_trans h.2 hn⟩
def shp (k : Nat) (ks : List Nat) : Prop :=
  match k with
  | 1 => ∀ x ∈ ks, x = 2 ∨ x = 3
  | 2 => ks = [23]
  | 3 | 28 => ∃ t, ks = [4, t, 6] ∧ nT t
  | 4 => ∀ x ∈ ks, x = 5
  | 5 => ∃ t, ks = [t] ∧ nT t
  | 6 => ∀ x ∈ ks, 7 ≤ x ∧ x ≤ 13
  | 7 => ∃ t e, ks = [t, e] ∧ nT t ∧ up 3 e
  | 8 | 11 | 12 | 13 | 25 | 27 => ∃ e, ks = [e] ∧ up 3 e
  | 9 => ∃ c o, ks = [c, 6, o] ∧ up 3 c ∧ (o = 0 ∨ o = 6)
  | 10 => ∃ c, ks = [c, 6] ∧ up 3 c
  | 14 | 15 => ∃ a b, ks = [a, b] ∧ up 2 a ∧ up 2 b
  | 16 | 17 => ∃ a b, ks = [a, b] ∧ up 2 a ∧ up 1 b
  | 18 => ∃ a b, ks = [a, b] ∧ up 1 a ∧ up 0 b
  | 19 => ∃ a, ks = [a] ∧ up 0 a
  | 20 => ∃ a l, ks = a :: l ∧ up 0 a ∧ ∀ x ∈ l, up 3 x
  | 26 => ∀ x ∈ ks, x = 27
  | 32 => ∀ x ∈ ks, x = 33
  | 33 => ∃ t, ks = [t] ∧ tyK t
  | 34 => ks ≠ [] ∧ ∀ x ∈ ks, tyK x
  | 0 | 21 | 22 | 23 | 24 | 29 | 30 | 31 => ks = []
  | _ => False
def okW (s : ByteArray) : Prop := badAt s.data.toList = none ∧ s.size ≤ 16384
def named (k : Nat) : Bool := k == 2 || k == 3 || k == 5 || k == 7 || k == 8 || k == 19 || k == 23 || k == 27 || k == 33
def wrd (h : Hd) : Prop :=
  if named h.kind = true then firstL (wB h) = (1, (wB h).length, 0)
  else if h.kind = 21 then firstL (wB h) = (3, (wB h).length, 0) ∧ okW h.word
  else if h.kind = 22 then firstL (wB h) = (4, (wB h).length, 0) ∧ okW h.word
  else h.word = e0
def okF : Fo → Prop
  | .nil => True
  | .cons h k r => (wrd h ∧ shp h.kind k.kinds) ∧ okF k ∧ okF r
theorem okF.app : ∀ {a b : Fo}, okF a → okF b → okF (a.app b)
  | .nil, _, _, hb => hb
  | .cons _ _ _, _, ha, hb => ⟨ha.1, ha.2.1, okF.app ha.2.2 hb⟩
theorem okF.one {h : Hd} {k : Fo} (hw : wrd h) (hs : shp h.kind k.kinds) (hk : okF k) : okF (.one h k) := ⟨⟨hw, hs⟩, hk, trivial⟩
theorem okF.zero : okF .zero := ⟨⟨by unfold wrd; rw [if_neg (by decide), if_neg (by decide), if_neg (by decide)], (rfl : ([] : List Nat) = [])⟩, trivial, trivial⟩
theorem wrd_e0 {h : Hd} (h1 : named h.kind = false) (h2 : h.kind ≠ 21) (h3 : h.kind ≠ 22) (h4 : h.word = e0) : wrd h := by
  unfold wrd; rw [if_neg (by simp [h1]), if_neg h2, if_neg h3]; exact h4
theorem wrd_nm {h : Hd} (h1 : named h.kind = true) (h4 : firstL (wB h) = (1, (wB h).length, 0)) : wrd h := by
  unfold wrd; rw [if_pos h1]; exact h4
def soft : Bs → Bool
  | [] => false
  | c :: _ => !wdN c.toNat && c != 61
def hard : Bs → Bool
  | [] => false
  | c :: t => !wdN c.toNat && (c :: t) != [61]
def blank (l : Bs) : Prop := ∀ c ∈ l, c = 32 ∨ c = 10
variable (l : List Tok)
def txt (i : Nat) : Bs := (textAt l i).data.toList
inductive Sg : Nat → Nat → Bs → Prop
  | one (i : Nat) (h : i < l.length) : Sg i (i + 1) (txt l i)
  | two {i j k : Nat} {bs sep cs : Bs} (h1 : Sg i j bs) (h2 : Sg j k cs) (hb : blank sep) (hs : sep ≠ [] ∨ soft (txt l j) = true ∨ hard (txt l (j - 1)) = true) : Sg i k (bs ++ sep ++ cs)
variable {l}
theorem blank1 : blank [32] := fun c h => by simp at h; exact .inl h
theorem blank0 : blank [] := fun c h => by cases h
theorem blank_line (d : Nat) : blank (lineB d) := fun c h => by
  unfold lineB at h
  rcases List.mem_cons.1 h with h | h
  · exact .inr h
  · exact .inl (List.eq_of_mem_replicate h)
theorem Sg.lt {i j : Nat} {bs : Bs} (h : Sg l i j bs) : i < j ∧ j ≤ l.length := by
  induction h with
  | one i h => omega
  | two _ _ _ _ i1 i2 => omega
theorem isM_txt {i : Nat} {x : List UInt8} (h : isM l i x = true) : i < l.length ∧ txt l i = x := by
  unfold isM at h
  cases hl : l[i]? with
  | none => rw [hl] at h; cases h
  | some t =>
    rw [hl] at h
    obtain ⟨hi, _⟩ := List.getElem?_eq_some_iff.1 hl
    refine ⟨hi, ?_⟩
    unfold txt textAt
    rw [hl]
    simp only [Bool.and_eq_true, beq_iff_eq] at h
    exact h.2
theorem Sg.tok {i : Nat} {x : List UInt8} (h : isM l i x = true) : Sg l i (i + 1) x := by
  obtain ⟨h1, h2⟩ := isM_txt h
  rw [← h2]; exact .one i h1
theorem Sg.sgn {i j : Nat} {bs : Bs} {x : List UInt8} (h1 : Sg l i j bs) (h : isM l j x = true) (hx : soft x = true) : Sg l i (j + 1) (bs ++ x) := by
  have := h1.two (.tok h) blank0 (.inr (.inl (by rw [(isM_txt h).2]; exact hx)))
  simpa using this
theorem Sg.far {i j k : Nat} {bs cs : Bs} (h1 : Sg l i j bs) (h2 : Sg l j k cs) : Sg l i k (bs ++ [32] ++ cs) := h1.two h2 blank1 (.inl (by simp))
theorem Sg.hrd {i j k : Nat} {bs cs : Bs} (h1 : Sg l i j bs) (h2 : Sg l j k cs) {x : List UInt8} (h : isM l (j - 1) x = true) (hx : hard x = true) : Sg l i k (bs ++ cs) := by
  have := h1.two h2 blank0 (.inr (.inr (by rw [(isM_txt h).2]; exact hx)))
  simpa using this
theorem Sg.sft {i j k : Nat} {bs cs : Bs} (h1 : Sg l i j bs) (h2 : Sg l j k cs) {x : List UInt8} (h : isM l j x = true) (hx : soft x = true) : Sg l i k (bs ++ cs) := by
  have := h1.two h2 blank0 (.inr (.inl (by rw [(isM_txt h).2]; exact hx)))
  simpa using this
end Ps
end Go.Proofs.YtiabkkdeonepgaaGreatDoor
namespace Go.Proofs.YtiabkkdeonepgaaGreatDoor
namespace Ps
open Pg
variable {l : List Tok}
structure TokF (l : List Tok) : Prop where
  word : ∀ i, kindAt l i = 1 → firstL (txt l i) = (1, (txt l i).length, 0)
  num : ∀ i, kindAt l i = 3 → firstL (txt l i) = (3, (txt l i).length, 0) ∧ okW (textAt l i)
  str : ∀ i, kindAt l i = 4 → firstL (txt l i) = (4, (txt l i).length, 0) ∧ okW (textAt l i)
theorem want_m {b : Int} {i : Nat} {x : List UInt8} (h : (wantM l b i x).2 < 0) : b < 0 ∧ isM l i x = true ∧ wantM l b i x = (i + 1, b) := wantM_good h
theorem word_m {b : Int} {i : Nat} {hd : Hd} (h : (wordM l b hd i).2.2 < 0) : b < 0 ∧ kindAt l i = 1 ∧ wordM l b hd i = ({ hd with word := textAt l i, at_ := i }, i + 1, b) := wordM_good h
theorem kind_lt {i : Nat} (h : kindAt l i ≠ 0) : i < l.length := by
  rcases Nat.lt_or_ge i l.length with h' | h'
  · exact h'
  · unfold kindAt at h; rw [List.getElem?_eq_none h'] at h; exact absurd rfl h
def Gd (l : List Tok) (i j : Nat) (f : Fo) (p : Nat → Prop) : Prop := ∃ h k, f = .one h k ∧ p h.kind ∧ okF f ∧ ∀ d, Sg l i j (prN d h k)
theorem Gd.mono {i j : Nat} {f : Fo} {p q : Nat → Prop} (h : Gd l i j f p) (hq : ∀ x, p x → q x) : Gd l i j f q := by
  obtain ⟨h, k, e, hp, ho, hs⟩ := h
  exact ⟨h, k, e, hq _ hp, ho, hs⟩
theorem Gd.to {i j j' : Nat} {f : Fo} {p : Nat → Prop} (h : Gd l i j f p) (e : j = j') : Gd l i j' f p := e ▸ h
def hardAt (l : List Tok) (i : Nat) : Prop := ∃ x, isM l (i - 1) x = true ∧ hard x = true
def LSp (l : List Tok) (first : Bool) (q : Nat → Prop) (i : Nat) (f : Fo) (j : Nat) : Prop :=
  okF f ∧ (∀ x ∈ f.kinds, q x) ∧ (first = false → f ≠ .nil) ∧ ∀ d i0 bs, Sg l i0 i bs → (first = true → hardAt l i) → Sg l i0 j (bs ++ (if first = true then [] else [32]) ++ cm (prt d f))
theorem LSp.nil {q : Nat → Prop} {i : Nat} : LSp l true q i .nil i := ⟨trivial, fun x h => (by cases h), fun h => (by cases h), fun d i0 bs h _ => by simpa [cm, prt] using h⟩
theorem LSp.one {first : Bool} {q : Nat → Prop} {i m : Nat} {n : Fo} (h : Gd l i m n q) : LSp l first q i n m := by
  obtain ⟨h, k, rfl, hq, ho, hs⟩ := h
  refine ⟨ho, fun x hx => ?_, fun _ => (by simp [Fo.one]), fun d i0 bs hb hf => ?_⟩
  · simp [Fo.one, Fo.kinds] at hx; rw [hx]; exact hq
  · rw [prt_one]
    have e : cm [(h.kind, prN d h k)] = prN d h k := by simp [cm]
    rw [e]
    cases first
    · exact hb.far (hs d)
    · obtain ⟨x, hx, hh⟩ := hf rfl
      have := hb.hrd (hs d) hx hh
      simpa using this
theorem cm_cons (x : Nat × Bs) {l : List (Nat × Bs)} (h : l ≠ []) : cm (x :: l) = x.2 ++ [44, 32] ++ cm l := by
  cases l with
  | nil => exact absurd rfl h
  | cons y l => simp [cm]
theorem prt_ne {d : Nat} : ∀ {f : Fo}, f ≠ .nil → prt d f ≠ []
  | .nil, h => absurd rfl h
  | .cons _ _ _, _ => by simp [prt]
theorem LSp.more {first : Bool} {q : Nat → Prop} {i m j : Nat} {n f : Fo} (h : Gd l i m n q) (hc : isM l m sCom = true) (hr : LSp l false q (m + 1) f j) : LSp l first q i (n.app f) j := by
  obtain ⟨o1, q1, _, s1⟩ := LSp.one (first := first) h
  obtain ⟨h, k, rfl, hq, ho, hs⟩ := h
  obtain ⟨o2, q2, n2, s2⟩ := hr
  refine ⟨o1.app o2, fun x hx => ?_, fun _ => (by simp [Fo.one, Fo.app]), fun d i0 bs hb hf => ?_⟩
  · rw [Fo.kinds_app] at hx
    rcases List.mem_append.1 hx with hx | hx
    · exact q1 x hx
    · exact q2 x hx
  · have a := s1 d i0 bs hb hf
    have b := a.sgn hc (by decide)
    have c := s2 d i0 _ b (fun h => by cases h)
    rw [prt_app, prt_one, List.singleton_append, cm_cons _ (prt_ne (n2 rfl))]
    rw [prt_one] at c
    have e : cm [(h.kind, prN d h k)] = prN d h k := by simp [cm]
    rw [e] at c
    simp only [Bool.false_eq_true, if_false, sCom, List.append_assoc, List.cons_append, List.nil_append] at c ⊢
    exact c
theorem hard_of {i : Nat} {x : List UInt8} (h : isM l i x = true) (hx : hard x = true) : hardAt l (i + 1) := ⟨x, h, hx⟩
theorem LSp.within {q : Nat → Prop} {i j i0 : Nat} {f : Fo} {o c : List UInt8} (h : LSp l true q (i + 1) f j) (ho : isM l i o = true) (hh : hard o = true) (hc : isM l j c = true) (hs : soft c = true) {bs : Bs} (hb : Sg l i0 (i + 1) (bs ++ o)) (d : Nat) : Sg l i0 (j + 1) (bs ++ o ++ cm (prt d f) ++ c) := by
  have := (h.2.2.2 d i0 _ hb (fun _ => hard_of ho hh)).sgn hc hs
  simpa using this
def TSpec (l : List Tok) : TT → Nat → Fo → Nat → Prop
  | .kind, i, f, j => Gd l i j f tyK
  | .recL first, i, f, j => LSp l first (· = 33) i f j
  | .fnL first, i, f, j => LSp l first tyK i f j
theorem ty_gd (T : TokF l) : ∀ (f : Nat) (t : TT) (b : Int) (i : Nat) (r : Fo × Nat × Int), tyM l f t b i = some r → r.2.2 < 0 → TSpec l t i r.1 r.2.1 := by
  intro f
  induction f with
  | zero => intro t b i r h; rw [tyM] at h; cases h
  | succ f ih =>
    intro t b i r h hr
    have hb := ty_was h hr
    cases t with
    | kind =>
      have leaf : ∀ (kd : Nat) (x : List UInt8), tyK kd → shp kd [] → (∀ d, nodeB d ⟨kd, i, i + 1, e0, 0⟩ [] = x) → isM l i x = true → Gd l i (i + 1) (.one ⟨kd, i, i + 1, e0, 0⟩ .nil) tyK := fun kd x hk hs hx hm => by
        have hk' := hk
        unfold tyK at hk'
        refine ⟨_, _, rfl, hk, okF.one (wrd_e0 (by dsimp only; unfold named; simp; omega) (by dsimp only; omega) (by dsimp only; omega) rfl) hs trivial, fun d => ?_⟩
        have e : prN d ⟨kd, i, i + 1, e0, 0⟩ .nil = x := hx d
        rw [e]
        exact .tok hm
      rw [tyM, if_neg (by omega)] at h
      split at h
      · rename_i hm; injection h with h; subst h; exact leaf 29 _ (by unfold tyK; omega) rfl (fun _ => rfl) hm
      · split at h
        · rename_i hm; injection h with h; subst h; exact leaf 30 _ (by unfold tyK; omega) rfl (fun _ => rfl) hm
        · split at h
          · rename_i hm; injection h with h; subst h; exact leaf 31 _ (by unfold tyK; omega) rfl (fun _ => rfl) hm
          · split at h
            · rename_i hm
              obtain ⟨x, hx, h⟩ := Option.bind_eq_some_iff.1 h
              injection h with h; subst h
              obtain ⟨g1, m1, e1⟩ := want_m hr
              have a := ih _ _ _ _ hx g1
              dsimp only at *
              rw [e1]
              refine ⟨_, _, rfl, by unfold tyK; dsimp only; omega, okF.one (wrd_e0 rfl (by dsimp only; omega) (by dsimp only; omega) rfl) a.2.1 a.1, fun d => ?_⟩
              exact a.within hm (by decide) m1 (by decide) (bs := []) (.tok hm) d
            · obtain ⟨x, hx, h⟩ := Option.bind_eq_some_iff.1 h
              obtain ⟨t, ht, h⟩ := Option.bind_eq_some_iff.1 h
              injection h with h; subst h
              obtain ⟨th, tk, te, tq, tO, ts⟩ := ih _ _ _ _ ht hr
              obtain ⟨g4, m4, e4⟩ := want_m (ty_was ht hr)
              obtain ⟨g3, m3, e3⟩ := want_m g4
              have a := ih _ _ _ _ hx g3
              obtain ⟨g2, m2, e2⟩ := want_m (ty_was hx g3)
              obtain ⟨g1, m1, e1⟩ := want_m g2
              dsimp only at *
              rw [e3] at m4 e4 ts
              rw [e4] at ts
              rw [e1] at m2 e2 a
              rw [e2] at a
              rw [te] at tO ⊢
              refine ⟨_, _, rfl, by unfold tyK; dsimp only; omega, okF.one (wrd_e0 rfl (by dsimp only; omega) (by dsimp only; omega) rfl) (show _ ≠ [] ∧ ∀ y ∈ _, tyK y from ⟨by rw [Fo.kinds_app]; simp [Fo.one, Fo.kinds], fun y hy => ?_⟩) (a.1.app tO), fun d => ?_⟩
              · rw [Fo.kinds_app] at hy
                rcases List.mem_append.1 hy with hy | hy
                · exact a.2.1 y hy
                · simp [Fo.one, Fo.kinds] at hy; rw [hy]; exact tq
              · have s1 := (Sg.tok m1).sgn m2 (by decide)
                have s2 := a.within m2 (by decide) m3 (by decide) s1 d
                have s3 := (s2.sgn m4 (by decide)).far (ts d)
                show Sg l i _ (nodeB d ⟨34, i, _, e0, 0⟩ (prt d (x.1.app (.one th tk))))
                rw [prt_app, prt_one]
                have e : nodeB d ⟨34, i, t.2.1, e0, 0⟩ (prt d x.1 ++ [(th.kind, prN d th tk)]) = [102, 110, 40] ++ cm (prt d x.1) ++ [41] ++ [58, 32] ++ prN d th tk := by
                  show [102, 110, 40] ++ cm ((prt d x.1 ++ [(th.kind, prN d th tk)]).dropLast) ++ [41] ++ [58, 32] ++ (((prt d x.1 ++ [(th.kind, prN d th tk)]).getLast?.map Prod.snd).getD []) = _
                  rw [List.dropLast_concat, List.getLast?_concat]
                  rfl
                rw [e]
                simpa [kFn, sParO, sParS, sCol] using s3
    | recL first =>
      rw [tyM] at h
      split at h
      · obtain ⟨t, h1, h⟩ := Option.bind_eq_some_iff.1 h
        have key : t.2.2 < 0 → Gd l i t.2.1 (.one { (wordM l b ⟨33, i, 0, e0, 0⟩ i).1 with til := t.2.1 } t.1) (· = 33) := fun hg => by
          obtain ⟨th, tk, te, tq, tO, ts⟩ := ih _ _ _ _ h1 hg
          obtain ⟨g2, m2, e2⟩ := want_m (ty_was h1 hg)
          obtain ⟨g1, m1, e1⟩ := word_m g2
          rw [e1] at m2 e2 ts
          rw [e2] at ts
          dsimp only at *
          rw [e1]
          rw [te] at tO ⊢
          refine ⟨_, _, rfl, rfl, okF.one (wrd_nm rfl (T.word _ m1)) (⟨th.kind, rfl, tq⟩ : ∃ t, _ = [t] ∧ tyK t) tO, fun d => ?_⟩
          have := ((Sg.one i (kind_lt (by omega))).sgn m2 (by decide)).far (ts d)
          show Sg l i t.2.1 (txt l i ++ [58, 32] ++ prN d th tk)
          simpa [sCol] using this
        split at h
        · injection h with h; subst h; exact LSp.one (key hr)
        · obtain ⟨y, h2, h⟩ := Option.map_eq_some_iff.1 h
          subst h
          have a2 := ih _ _ _ _ h2 hr
          obtain ⟨g1, m1, e1⟩ := want_m (ty_was h2 hr)
          rw [e1] at a2
          exact LSp.more (key g1) m1 a2
      · rename_i hn
        injection h with h; subst h
        cases first
        · exact absurd ⟨hr, by simp⟩ hn
        · exact LSp.nil
    | fnL first =>
      rw [tyM] at h
      split at h
      · obtain ⟨t, h1, h⟩ := Option.bind_eq_some_iff.1 h
        have key : t.2.2 < 0 → Gd l i t.2.1 t.1 tyK := fun hg => ih _ _ _ _ h1 hg
        split at h
        · injection h with h; subst h; exact LSp.one (key hr)
        · obtain ⟨y, h2, h⟩ := Option.map_eq_some_iff.1 h
          subst h
          have a2 := ih _ _ _ _ h2 hr
          obtain ⟨g1, m1, e1⟩ := want_m (ty_was h2 hr)
          rw [e1] at a2
          exact LSp.more (key g1) m1 a2
      · rename_i hn
        injection h with h; subst h
        cases first
        · exact absurd ⟨hr, by simp⟩ hn
        · exact LSp.nil
theorem typed_gd (T : TokF l) {f : Nat} {b : Int} {i : Nat} {r : Fo × Nat × Int} (h : typedM l f b i = some r) (hr : r.2.2 < 0) :
    ∃ h k, r.1 = .one h k ∧ nT h.kind ∧ okF r.1 ∧ ∀ d i0 bs, Sg l i0 i bs → Sg l i0 r.2.1 (bs ++ wrB (h.kind, prN d h k)) := by
  unfold typedM at h
  split at h
  · injection h with h; subst h
    exact ⟨_, _, rfl, .inl rfl, okF.zero, fun d i0 bs hb => by simpa [wrB] using hb⟩
  · rename_i hn
    obtain ⟨th, tk, te, tq, tO, ts⟩ := ty_gd T _ _ _ _ _ h hr
    have hm : isM l i sCol = true := by
      cases hm : isM l i sCol
      · exact absurd (.inr (by rw [hm]; simp)) hn
      · rfl
    refine ⟨th, tk, te, .inr tq, tO, fun d i0 bs hb => ?_⟩
    have := (hb.sgn hm (by decide)).far (ts d)
    unfold tyK at tq
    unfold wrB
    rw [if_neg (by dsimp only; omega)]
    simpa [sCol] using this
theorem par_gd (T : TokF l) : ∀ (f : Nat) (first : Bool) (b : Int) (i : Nat) (r : Fo × Nat × Int), parL l f first b i = some r → r.2.2 < 0 → LSp l first (· = 5) i r.1 r.2.1 := by
  intro f
  induction f with
  | zero => intro first b i r h; rw [parL] at h; cases h
  | succ f ih =>
    intro first b i r h hr
    rw [parL] at h
    split at h
    · obtain ⟨t, h1, h⟩ := Option.bind_eq_some_iff.1 h
      have key : t.2.2 < 0 → Gd l i t.2.1 (.one { (wordM l b ⟨5, i, 0, e0, 0⟩ i).1 with til := t.2.1 } t.1) (· = 5) := fun hg => by
        obtain ⟨th, tk, te, tq, tO, ts⟩ := typed_gd T h1 hg
        obtain ⟨g1, m1, e1⟩ := word_m (typed_was h1 hg)
        rw [e1] at ts
        dsimp only at *
        rw [e1]
        rw [te] at tO ⊢
        refine ⟨_, _, rfl, rfl, okF.one (wrd_nm rfl (T.word _ m1)) (⟨th.kind, rfl, tq⟩ : ∃ t, _ = [t] ∧ nT t) tO, fun d => ?_⟩
        exact ts d i _ (Sg.one i (kind_lt (by omega)))
      split at h
      · injection h with h; subst h; exact LSp.one (key hr)
      · obtain ⟨y, h2, h⟩ := Option.map_eq_some_iff.1 h
        subst h
        have a2 := ih _ _ _ _ h2 hr
        obtain ⟨g1, m1, e1⟩ := want_m (parL_was h2 hr)
        rw [e1] at a2
        exact LSp.more (key g1) m1 a2
    · rename_i hn
      injection h with h; subst h
      cases first
      · exact absurd ⟨hr, by simp⟩ hn
      · exact LSp.nil
theorem params_gd (T : TokF l) {f : Nat} {b : Int} {i : Nat} {r : Fo × Nat × Int} (h : paramsM l f b i = some r) (hr : r.2.2 < 0) : isM l i sParO = true ∧ Gd l i r.2.1 r.1 (· = 4) := by
  unfold paramsM at h
  obtain ⟨x, hx, h⟩ := Option.bind_eq_some_iff.1 h
  injection h with h; subst h
  obtain ⟨g2, m2, e2⟩ := want_m hr
  have a := par_gd T _ _ _ _ _ hx g2
  obtain ⟨g1, m1, e1⟩ := want_m (parL_was hx g2)
  rw [e1] at a
  dsimp only at *
  rw [e2]
  refine ⟨m1, _, _, rfl, rfl, okF.one (wrd_e0 rfl (by dsimp only; omega) (by dsimp only; omega) rfl) a.2.1 a.1, fun d => ?_⟩
  exact a.within m1 (by decide) m2 (by decide) (bs := []) (.tok m1) d
end Ps
end Go.Proofs.YtiabkkdeonepgaaGreatDoor
namespace Go.Proofs.YtiabkkdeonepgaaGreatDoor
namespace Ps
open Pg
variable {l : List Tok}
def LamG (l : List Tok) (i : Nat) (f : Fo) (j : Nat) : Prop := okF f ∧ (∃ t, f.kinds = [4, t, 6] ∧ nT t) ∧ ∀ d i0 bs, Sg l i0 i bs → Sg l i0 j (bs ++ fnB (prt d f))
def stK (k : Nat) : Prop := 7 ≤ k ∧ k ≤ 13
theorem stk {k : Nat} (h1 : 7 ≤ k) (h2 : k ≤ 13) : stK k := ⟨h1, h2⟩
def StG (l : List Tok) (i : Nat) (f : Fo) (j : Nat) : Prop := okF f ∧ (∀ x ∈ f.kinds, stK x) ∧ (f = .nil → j = i) ∧ ∀ d i0 bs, Sg l i0 i bs → Sg l i0 j (bs ++ linesB d (prt d f))
def XSpec (l : List Tok) : XT → Nat → Fo → Nat → Prop
  | .lambda, i, f, j => LamG l i f j
  | .block, i, f, j => Gd l i j f (· = 6)
  | .stmts, i, f, j => StG l i f j
  | .stmt, i, f, j => Gd l i j f stK
  | .expr, i, f, j => Gd l i j f (up 3)
  | .sum, i, f, j => Gd l i j f (up 2)
  | .term, i, f, j => Gd l i j f (up 1)
  | .post, i, f, j => Gd l i j f (up 0)
  | .atom, i, f, j => Gd l i j f (up 0)
  | .sumL a, i, f, j => ∀ i0, Gd l i0 i a (up 2) → Gd l i0 j f (up 2)
  | .termL a, i, f, j => ∀ i0, Gd l i0 i a (up 1) → Gd l i0 j f (up 1)
  | .postL a, i, f, j => ∀ i0, Gd l i0 i a (up 0) → Gd l i0 j f (up 0)
  | .args first, i, f, j => LSp l first (up 3) i f j
  | .entries first, i, f, j => LSp l first (· = 27) i f j
theorem upk {m k : Nat} (h : 14 ≤ k ∧ k ≤ 28 ∧ k ≠ 27) (hh : hgt k ≤ m) : up m k := ⟨h, hh⟩
theorem Gd.two {i0 i m j : Nat} {a c : Fo} {p q : Nat → Prop} {kd fr tl : Nat} (ha : Gd l i0 i a p) (hc : Gd l (i + 1) j c q) (hm : isM l i (signB kd) = true) (hk : kd = 14 ∨ kd = 15 ∨ kd = 16 ∨ kd = 17 ∨ kd = 18)
    (hs : ∀ x y, p x → q y → shp kd [x, y]) (hu : up m kd) : Gd l i0 j (.one ⟨kd, fr, tl, e0, 0⟩ (a.app c)) (up m) := by
  obtain ⟨ah, ak, rfl, ap, ao, sA⟩ := ha
  obtain ⟨ch, ck, rfl, cp, co, cs⟩ := hc
  refine ⟨_, _, rfl, hu, okF.one (wrd_e0 (by dsimp only; rcases hk with rfl | rfl | rfl | rfl | rfl <;> rfl) (by dsimp only; omega) (by dsimp only; omega) rfl) (hs _ _ ap cp) (ao.app co), fun d => ?_⟩
  have e : prN d ⟨kd, fr, tl, e0, 0⟩ ((Fo.one ah ak).app (.one ch ck)) = prN d ah ak ++ ([32] ++ signB kd ++ [32]) ++ prN d ch ck := by
    rcases hk with rfl | rfl | rfl | rfl | rfl <;> rfl
  rw [e]
  have := ((sA d).far (.tok hm)).far (cs d)
  simpa using this
theorem ex_gd (T : TokF l) : ∀ (f : Nat) (t : XT) (b : Int) (i : Nat) (r : Fo × Nat × Int), exM l f t b i = some r → r.2.2 < 0 → XSpec l t i r.1 r.2.1 := by
  intro f
  induction f with
  | zero => intro t b i r h; rw [exM] at h; cases h
  | succ f ih =>
    intro t b i r h hr
    have hb := exM_was h hr
    cases t with
    | lambda =>
      rw [exM] at h
      obtain ⟨p, h1, h⟩ := Option.bind_eq_some_iff.1 h
      obtain ⟨t, h2, h⟩ := Option.bind_eq_some_iff.1 h
      obtain ⟨k, h3, h⟩ := Option.bind_eq_some_iff.1 h
      injection h with h; subst h
      obtain ⟨bh, bk, be, bp, bo, bs⟩ := ih _ _ _ _ h3 hr
      obtain ⟨th, tk, te, tq, tO, ts⟩ := typed_gd T h2 (exM_was h3 hr)
      obtain ⟨pm, ph, pk, pe, pp, po, ps⟩ := params_gd T h1 (typed_was h2 (exM_was h3 hr))
      rw [be] at bo ⊢
      rw [te] at tO ⊢
      rw [pe] at po ⊢
      refine ⟨po.app (tO.app bo), ⟨th.kind, by simp [Fo.one, Fo.app, Fo.kinds, pp, bp], tq⟩, fun d i0 cs hc => ?_⟩
      have s1 := hc.sft (ps d) pm (by decide)
      have s2 := (ts d i0 _ s1).far (bs d)
      have e : fnB (prt d ((Fo.one ph pk).app ((Fo.one th tk).app (.one bh bk)))) = prN d ph pk ++ wrB (th.kind, prN d th tk) ++ [32] ++ prN d bh bk := rfl
      rw [e]
      simpa using s2
    | block =>
      rw [exM] at h
      obtain ⟨x, h1, h⟩ := Option.bind_eq_some_iff.1 h
      injection h with h; subst h
      obtain ⟨g2, m2, e2⟩ := want_m hr
      have a := ih _ _ _ _ h1 g2
      obtain ⟨g1, m1, e1⟩ := want_m (exM_was h1 g2)
      rw [e1] at a
      obtain ⟨ao, ak, an, sA⟩ := a
      dsimp only at *
      rw [e2]
      refine ⟨_, _, rfl, rfl, okF.one (wrd_e0 rfl (by dsimp only; omega) (by dsimp only; omega) rfl) ak ao, fun d => ?_⟩
      have e : prN d ⟨6, i, (x.2.1 + 1, x.2.2).1, e0, 0⟩ x.1 = [123] ++ linesB (d + 1) (prt (d + 1) x.1) ++ (if prt (d + 1) x.1 = [] then [] else lineB d) ++ [125] := rfl
      rw [e]
      have s1 := sA (d + 1) i _ (.tok m1)
      by_cases hx : x.1 = .nil
      · rw [hx] at s1 ⊢
        have s2 := s1.sgn m2 (by decide)
        simpa [prt, linesB, sOpen, sShut] using s2
      · rw [if_neg (prt_ne hx)]
        have s2 := s1.two (.tok m2) (blank_line d) (.inl (by simp [lineB]))
        exact s2
    | stmts =>
      rw [exM] at h
      split at h
      · obtain ⟨x, h1, h⟩ := Option.bind_eq_some_iff.1 h
        obtain ⟨y, h2, h⟩ := Option.map_eq_some_iff.1 h
        subst h
        obtain ⟨yo, yk, yn, ys⟩ := ih _ _ _ _ h2 hr
        obtain ⟨xh, xk, xe, xp, xo, xs⟩ := ih _ _ _ _ h1 (exM_was h2 hr)
        dsimp only
        rw [xe] at xo ⊢
        refine ⟨xo.app yo, fun z hz => ?_, fun e => (by simp [Fo.one, Fo.app] at e), fun d i0 cs hc => ?_⟩
        · rw [Fo.kinds_app] at hz
          rcases List.mem_append.1 hz with hz | hz
          · simp [Fo.one, Fo.kinds] at hz; rw [hz]; exact xp
          · exact yk z hz
        · have s1 := hc.two (xs d) (blank_line d) (.inl (by simp [lineB]))
          have s2 := ys d i0 _ s1
          rw [prt_app, prt_one]
          have e : linesB d ([(xh.kind, prN d xh xk)] ++ prt d y.1) = lineB d ++ prN d xh xk ++ linesB d (prt d y.1) := by simp [linesB]
          rw [e]
          simpa using s2
      · injection h with h; subst h
        exact ⟨trivial, fun x hx => (by cases hx), fun _ => rfl, fun d i0 cs hc => by simpa [prt, linesB] using hc⟩
    | stmt =>
      by_cases hif : isM l i kIf = true
      · obtain ⟨c, k, o, hc, hk, ho, e⟩ := st_if h rfl hif
        subst e
        have gk : k.2.2 < 0 := by
          by_cases hh : 0 ≤ k.2.2
          · have := other_bad hh ho; dsimp only at hr; omega
          · omega
        obtain ⟨kh, kk, ke, kp, ko, ks⟩ := ih _ _ _ _ hk gk
        obtain ⟨ch, ck, ce, cp, co, cs⟩ := ih _ _ _ _ hc (exM_was hk gk)
        have s2 := fun d => (((Sg.tok hif).far (cs d))).far (ks d)
        unfold otherM at ho
        split at ho
        · rename_i hel
          obtain ⟨oh, ok, oe, op, oo, os⟩ := ih _ _ _ _ ho hr
          dsimp only at *
          rw [ce] at co ⊢
          rw [ke] at ko ⊢
          rw [oe] at oo ⊢
          refine ⟨_, _, rfl, stk (by dsimp only; omega) (by dsimp only; omega), okF.one (wrd_e0 rfl (by dsimp only; omega) (by dsimp only; omega) rfl) (⟨ch.kind, 6, by simp [Fo.one, Fo.app, Fo.kinds, kp, op], cp, .inr rfl⟩ : ∃ c o, _ = [c, 6, o] ∧ up 3 c ∧ (o = 0 ∨ o = 6)) (co.app (ko.app oo)), fun d => ?_⟩
          have e : prN d ⟨9, i, o.2.1, e0, 0⟩ ((Fo.one ch ck).app ((Fo.one kh kk).app (.one oh ok))) = [105, 102, 32] ++ prN d ch ck ++ [32] ++ prN d kh kk ++ (if oh.kind = 0 then [] else [32, 101, 108, 115, 101, 32] ++ prN d oh ok) := rfl
          rw [e, if_neg (by omega)]
          have s3 := ((s2 d).far (.tok hel.2)).far (os d)
          simpa [kIf, kElse] using s3
        · injection ho with ho
          rw [← ho] at hr ⊢
          dsimp only at *
          rw [ce] at co ⊢
          rw [ke] at ko ⊢
          refine ⟨_, _, rfl, stk (by dsimp only; omega) (by dsimp only; omega), okF.one (wrd_e0 rfl (by dsimp only; omega) (by dsimp only; omega) rfl) (⟨ch.kind, 0, by simp [Fo.one, Fo.zero, Fo.app, Fo.kinds, kp], cp, .inl rfl⟩ : ∃ c o, _ = [c, 6, o] ∧ up 3 c ∧ (o = 0 ∨ o = 6)) (co.app (ko.app okF.zero)), fun d => ?_⟩
          have e : prN d ⟨9, i, k.2.1, e0, 0⟩ ((Fo.one ch ck).app ((Fo.one kh kk).app .zero)) = [105, 102, 32] ++ prN d ch ck ++ [32] ++ prN d kh kk ++ [] := rfl
          rw [e]
          simpa [kIf] using s2 d
      · by_cases hwh : isM l i kWhile = true
        · obtain ⟨c, k, hc, hk, e⟩ := st_while h rfl hwh
          subst e
          obtain ⟨kh, kk, ke, kp, ko, ks⟩ := ih _ _ _ _ hk hr
          obtain ⟨ch, ck, ce, cp, co, cs⟩ := ih _ _ _ _ hc (exM_was hk hr)
          dsimp only at *
          rw [ce] at co ⊢
          rw [ke] at ko ⊢
          refine ⟨_, _, rfl, stk (by dsimp only; omega) (by dsimp only; omega), okF.one (wrd_e0 rfl (by dsimp only; omega) (by dsimp only; omega) rfl) (⟨ch.kind, by simp [Fo.one, Fo.app, Fo.kinds, kp], cp⟩ : ∃ c, _ = [c, 6] ∧ up 3 c) (co.app ko), fun d => ?_⟩
          have s2 := (((Sg.tok hwh).far (cs d))).far (ks d)
          have e : prN d ⟨10, i, k.2.1, e0, 0⟩ ((Fo.one ch ck).app (.one kh kk)) = [119, 104, 105, 108, 101, 32] ++ prN d ch ck ++ [32] ++ prN d kh kk := rfl
          rw [e]
          simpa [kWhile] using s2
        · by_cases hlet : isM l i kLet = true
          · obtain ⟨t, v, ht, hv, e⟩ := st_let h rfl hlet
            subst e
            obtain ⟨g3, m3, e3⟩ := want_m hr
            obtain ⟨vh, vk, ve, vp, vo, vs⟩ := ih _ _ _ _ hv g3
            obtain ⟨g1, m1, e1⟩ := want_m (exM_was hv g3)
            obtain ⟨th, tk, te, tq, tO, ts⟩ := typed_gd T ht g1
            have g0 := typed_was ht g1
            have ew : (wordM l b ⟨7, i, 0, e0, 0⟩ (i + 1)).2 = (wordM l b ⟨0, 0, 0, e0, 0⟩ (i + 1)).2 := wordM_snd _ _ _ _
            rw [← ew] at g0 ts
            obtain ⟨_, w0, w1⟩ := word_m g0
            rw [w1] at ts ⊢
            rw [e1] at vs
            rw [e3]
            dsimp only at *
            rw [te] at tO ⊢
            rw [ve] at vo ⊢
            refine ⟨_, _, rfl, stk (by dsimp only; omega) (by dsimp only; omega), okF.one (wrd_nm rfl (T.word _ w0)) (⟨th.kind, vh.kind, rfl, tq, vp⟩ : ∃ t e, _ = [t, e] ∧ nT t ∧ up 3 e) (tO.app vo), fun d => ?_⟩
            have s1 := (Sg.tok hlet).far (Sg.one (i + 1) (kind_lt (by omega)))
            have s2 := (((ts d i _ s1).far (.tok m1)).far (vs d)).sgn m3 (by decide)
            show Sg l i (v.2.1 + 1) ([108, 101, 116, 32] ++ txt l (i + 1) ++ wrB (th.kind, prN d th tk) ++ [32, 61, 32] ++ prN d vh vk ++ [59])
            simpa [kLet, sEq, sSem] using s2
          · have close : ∀ (kd j : Nat) (pre : Bs), kd = 11 ∨ kd = 12 ∨ kd = 13 → (∀ d h k, prN d ⟨kd, i, (r.2.1), e0, 0⟩ (.one h k) = pre ++ prN d h k ++ [59]) → (∀ m bs, Sg l j m bs → Sg l i m (pre ++ bs)) → closeM l f kd i (j, b) = some r → XSpec l .stmt i r.1 r.2.1 := fun kd j pre hkd hpr hsg hc => by
              unfold closeM at hc
              obtain ⟨v, hv, e⟩ := Option.bind_eq_some_iff.1 hc
              injection e with e; subst e
              obtain ⟨g1, m1, e1⟩ := want_m hr
              obtain ⟨vh, vk, ve, vp, vo, vs⟩ := ih _ _ _ _ hv g1
              rw [e1] at hpr ⊢
              dsimp only at *
              rw [ve] at vo ⊢
              refine ⟨_, _, rfl, stk (by dsimp only; omega) (by dsimp only; omega), okF.one (wrd_e0 (by dsimp only; rcases hkd with rfl | rfl | rfl <;> rfl) (by dsimp only; omega) (by dsimp only; omega) rfl) (by rcases hkd with rfl | rfl | rfl <;> exact (⟨vh.kind, rfl, vp⟩ : ∃ e, _ = [e] ∧ up 3 e)) vo, fun d => ?_⟩
              rw [hpr]
              exact (hsg _ _ (vs d)).sgn m1 (by decide)
            by_cases hpr : isM l i kPrint = true
            · exact close 11 (i + 1) (kPrint ++ [32]) (.inl rfl) (fun d h k => rfl) (fun m bs hs => by simpa using (Sg.tok hpr).far hs) (st_print h rfl hpr)
            · by_cases hre : isM l i kReturn = true
              · exact close 12 (i + 1) (kReturn ++ [32]) (.inr (.inl rfl)) (fun d h k => rfl) (fun m bs hs => by simpa using (Sg.tok hre).far hs) (st_return h rfl hre)
              · by_cases hse : kindAt l i = 1 ∧ isM l (i + 1) sEq = true
                · obtain ⟨v, hv, e⟩ := st_word h rfl hb hse.1 hse.2
                  subst e
                  obtain ⟨g1, m1, e1⟩ := want_m hr
                  obtain ⟨vh, vk, ve, vp, vo, vs⟩ := ih _ _ _ _ hv g1
                  dsimp only at *
                  rw [e1]
                  rw [ve] at vo ⊢
                  refine ⟨_, _, rfl, stk (by dsimp only; omega) (by dsimp only; omega), okF.one (wrd_nm rfl (T.word _ hse.1)) (⟨vh.kind, rfl, vp⟩ : ∃ e, _ = [e] ∧ up 3 e) vo, fun d => ?_⟩
                  have s2 := (((Sg.one i (kind_lt (by omega))).far (.tok hse.2)).far (vs d)).sgn m1 (by decide)
                  show Sg l i (v.2.1 + 1) (txt l i ++ [32, 61, 32] ++ prN d vh vk ++ [59])
                  simpa [sEq, sSem] using s2
                · exact close 13 i [] (.inr (.inr rfl)) (fun d h k => rfl) (fun m bs hs => hs) (st_do h rfl (by simpa using hlet) (by simpa using hif) (by simpa using hwh) (by simpa using hpr) (by simpa using hre) hse)
    | expr =>
      rw [exM] at h
      obtain ⟨a, h1, h⟩ := Option.bind_eq_some_iff.1 h
      split at h
      · injection h with h; subst h
        exact (show Gd l i a.2.1 a.1 (up 2) from ih _ _ _ _ h1 hr).mono fun x hx => hx.mono (by omega)
      · rename_i hn
        obtain ⟨c, h2, h⟩ := Option.bind_eq_some_iff.1 h
        injection h with h; subst h
        have hc : Gd l (a.2.1 + 1) c.2.1 c.1 (up 2) := ih _ _ _ _ h2 hr
        have ha : Gd l i a.2.1 a.1 (up 2) := ih _ _ _ _ h1 (exM_was h2 hr)
        by_cases hq : isM l a.2.1 sEqEq = true
        · rw [if_pos hq]
          exact ha.two hc hq (.inr (.inl rfl)) (fun x y hx hy => (⟨x, y, rfl, hx, hy⟩ : ∃ a b, _ = [a, b] ∧ up 2 a ∧ up 2 b)) (upk (by omega) (by decide))
        · rw [if_neg hq]
          have hl : isM l a.2.1 sLess = true := by
            cases hl : isM l a.2.1 sLess
            · exact absurd (.inr ⟨by rw [hl]; simp, hq⟩) hn
            · rfl
          exact ha.two hc hl (.inl rfl) (fun x y hx hy => (⟨x, y, rfl, hx, hy⟩ : ∃ a b, _ = [a, b] ∧ up 2 a ∧ up 2 b)) (upk (by omega) (by decide))
    | sum =>
      rw [exM] at h
      obtain ⟨a, h1, h⟩ := Option.bind_eq_some_iff.1 h
      exact ih _ _ _ _ h hr i ((show Gd l i a.2.1 a.1 (up 1) from ih _ _ _ _ h1 (exM_was h hr)).mono fun x hx => hx.mono (by omega))
    | term =>
      rw [exM] at h
      obtain ⟨a, h1, h⟩ := Option.bind_eq_some_iff.1 h
      exact ih _ _ _ _ h hr i ((show Gd l i a.2.1 a.1 (up 0) from ih _ _ _ _ h1 (exM_was h hr)).mono fun x hx => hx.mono (by omega))
    | post =>
      rw [exM] at h
      obtain ⟨a, h1, h⟩ := Option.bind_eq_some_iff.1 h
      exact ih _ _ _ _ h hr i (show Gd l i a.2.1 a.1 (up 0) from ih _ _ _ _ h1 (exM_was h hr))
    | sumL a =>
      intro i0 ha
      rw [exM] at h
      split at h
      · rename_i hg
        obtain ⟨c, h1, h⟩ := Option.bind_eq_some_iff.1 h
        have hc : Gd l (i + 1) c.2.1 c.1 (up 1) := ih _ _ _ _ h1 (exM_was h hr)
        refine ih _ _ _ _ h hr i0 ?_
        by_cases hq : isM l i sMinus = true
        · rw [if_pos hq]
          exact ha.two hc hq (.inr (.inr (.inr (.inl rfl)))) (fun x y hx hy => (⟨x, y, rfl, hx, hy⟩ : ∃ a b, _ = [a, b] ∧ up 2 a ∧ up 1 b)) (upk (by omega) (by decide))
        · rw [if_neg hq]
          exact ha.two hc (hg.2.resolve_right hq) (.inr (.inr (.inl rfl))) (fun x y hx hy => (⟨x, y, rfl, hx, hy⟩ : ∃ a b, _ = [a, b] ∧ up 2 a ∧ up 1 b)) (upk (by omega) (by decide))
      · injection h with h; subst h; exact ha
    | termL a =>
      intro i0 ha
      rw [exM] at h
      split at h
      · rename_i hg
        obtain ⟨c, h1, h⟩ := Option.bind_eq_some_iff.1 h
        have hc : Gd l (i + 1) c.2.1 c.1 (up 0) := ih _ _ _ _ h1 (exM_was h hr)
        refine ih _ _ _ _ h hr i0 ?_
        exact ha.two hc hg.2 (.inr (.inr (.inr (.inr rfl)))) (fun x y hx hy => (⟨x, y, rfl, hx, hy⟩ : ∃ a b, _ = [a, b] ∧ up 1 a ∧ up 0 b)) (upk (by omega) (by decide))
      · injection h with h; subst h; exact ha
    | postL a =>
      intro i0 ha
      rw [exM] at h
      split at h
      · rename_i hg
        obtain ⟨ah, ak, ae, ap, ao, sA⟩ := ha
        split at h
        · rename_i hd
          have g1 := exM_was h hr
          obtain ⟨_, w0, w1⟩ := word_m g1
          rw [w1] at h
          refine ih _ _ _ _ h hr i0 ?_
          dsimp only
          rw [ae] at ao ⊢
          refine ⟨_, _, rfl, upk (by dsimp only; omega) (by dsimp only; decide), okF.one (wrd_nm rfl (T.word _ w0)) (⟨ah.kind, rfl, ap⟩ : ∃ a, _ = [a] ∧ up 0 a) ao, fun d => ?_⟩
          have s1 := ((sA d).sgn hd (by decide)).hrd (Sg.one (i + 1) (kind_lt (by omega))) (x := sDot) hd (by decide)
          exact s1
        · rename_i hd
          obtain ⟨k, h1, h⟩ := Option.bind_eq_some_iff.1 h
          obtain ⟨g1, m1, e1⟩ := want_m (exM_was h hr)
          have hk : LSp l true (up 3) (i + 1) k.1 k.2.1 := ih _ _ _ _ h1 g1
          rw [e1] at h
          refine ih _ _ _ _ h hr i0 ?_
          dsimp only
          rw [ae] at ao ⊢
          have ho := hg.2.resolve_left hd
          refine ⟨_, _, rfl, upk (by dsimp only; omega) (by dsimp only; decide), okF.one (wrd_e0 rfl (by dsimp only; omega) (by dsimp only; omega) rfl) (⟨ah.kind, k.1.kinds, by simp [Fo.one, Fo.app, Fo.kinds], ap, hk.2.1⟩ : ∃ a l, _ = a :: l ∧ up 0 a ∧ ∀ x ∈ l, up 3 x) (ao.app hk.1), fun d => ?_⟩
          have s1 := hk.within ho (by decide) m1 (by decide) ((sA d).sgn ho (by decide)) d
          exact s1
      · injection h with h; subst h; exact ha
    | args first =>
      rw [exM] at h
      split at h
      · obtain ⟨t, h1, h⟩ := Option.bind_eq_some_iff.1 h
        have key : t.2.2 < 0 → Gd l i t.2.1 t.1 (up 3) := fun hg => ih _ _ _ _ h1 hg
        split at h
        · injection h with h; subst h; exact LSp.one (key hr)
        · obtain ⟨y, h2, h⟩ := Option.map_eq_some_iff.1 h
          subst h
          have a2 := ih _ _ _ _ h2 hr
          obtain ⟨g1, m1, e1⟩ := want_m (exM_was h2 hr)
          rw [e1] at a2
          exact LSp.more (key g1) m1 a2
      · rename_i hn
        injection h with h; subst h
        cases first
        · exact absurd ⟨hr, by simp⟩ hn
        · exact LSp.nil
    | atom =>
      have leaf : ∀ (kd : Nat) (w : ByteArray) (at_ : Nat) (x : Bs), (14 ≤ kd ∧ kd ≤ 28 ∧ kd ≠ 27) → hgt kd ≤ 0 → wrd ⟨kd, i, i + 1, w, at_⟩ → shp kd [] → (∀ d, nodeB d ⟨kd, i, i + 1, w, at_⟩ [] = txt l i) → i < l.length → Gd l i (i + 1) (.one ⟨kd, i, i + 1, w, at_⟩ .nil) (up 0) := fun kd w at_ x hk hh hw hs hx hl => by
        refine ⟨_, _, rfl, upk hk hh, okF.one hw hs trivial, fun d => ?_⟩
        have e : prN d ⟨kd, i, i + 1, w, at_⟩ .nil = txt l i := hx d
        rw [e]
        exact .one i hl
      rw [exM, if_neg (by omega)] at h
      split at h
      · rename_i hk
        injection h with h; subst h
        exact leaf 21 _ _ [] (by omega) (by decide) (by unfold wrd; rw [if_neg (by dsimp only; decide), if_pos rfl]; exact T.num i hk) rfl (fun d => rfl) (kind_lt (by omega))
      · split at h
        · rename_i hk
          injection h with h; subst h
          exact leaf 22 _ _ [] (by omega) (by decide) (by unfold wrd; rw [if_neg (by dsimp only; decide), if_neg (by dsimp only; omega), if_pos rfl]; exact T.str i hk) rfl (fun d => rfl) (kind_lt (by omega))
        · split at h
          · rename_i hk
            injection h with h; subst h
            exact leaf 23 _ _ [] (by omega) (by decide) (wrd_nm rfl (T.word i hk)) rfl (fun d => rfl) (kind_lt (by omega))
          · split at h
            · rename_i hm
              injection h with h; subst h
              exact leaf 24 _ _ [] (by omega) (by decide) (wrd_e0 rfl (by dsimp only; omega) (by dsimp only; omega) rfl) rfl (fun d => (isM_txt hm).2.symm) (isM_txt hm).1
            · split at h
              · rename_i hm
                obtain ⟨x, h1, h⟩ := Option.bind_eq_some_iff.1 h
                injection h with h; subst h
                obtain ⟨g1, m1, e1⟩ := want_m hr
                obtain ⟨xh, xk, xe, xp, xo, xs⟩ := ih _ _ _ _ h1 g1
                dsimp only at *
                rw [e1]
                rw [xe] at xo ⊢
                refine ⟨_, _, rfl, upk (by dsimp only; omega) (by dsimp only; decide), okF.one (wrd_e0 rfl (by dsimp only; omega) (by dsimp only; omega) rfl) (⟨xh.kind, rfl, xp⟩ : ∃ e, _ = [e] ∧ up 3 e) xo, fun d => ?_⟩
                have s1 := ((Sg.tok hm).hrd (xs d) (x := sParO) hm (by decide)).sgn m1 (by decide)
                have e : prN d ⟨25, i, (x.2.1 + 1, x.2.2).1, e0, 0⟩ (.one xh xk) = [40] ++ prN d xh xk ++ [41] := by
                  show [40] ++ cm [(xh.kind, prN d xh xk)] ++ [41] = _
                  simp [cm]
                rw [e]
                exact s1
              · split at h
                · rename_i hm
                  obtain ⟨x, h1, h⟩ := Option.bind_eq_some_iff.1 h
                  injection h with h; subst h
                  obtain ⟨g1, m1, e1⟩ := want_m hr
                  have a : LSp l true (· = 27) (i + 1) x.1 x.2.1 := ih _ _ _ _ h1 g1
                  dsimp only at *
                  rw [e1]
                  refine ⟨_, _, rfl, upk (by dsimp only; omega) (by dsimp only; decide), okF.one (wrd_e0 rfl (by dsimp only; omega) (by dsimp only; omega) rfl) a.2.1 a.1, fun d => ?_⟩
                  exact a.within hm (by decide) m1 (by decide) (bs := []) (.tok hm) d
                · obtain ⟨x, h1, h⟩ := Option.bind_eq_some_iff.1 h
                  injection h with h; subst h
                  have a : LamG l _ x.1 x.2.1 := ih _ _ _ _ h1 hr
                  obtain ⟨g1, m1, e1⟩ := want_m (exM_was h1 hr)
                  rw [e1] at a
                  obtain ⟨ao, ak, sA⟩ := a
                  dsimp only at *
                  refine ⟨_, _, rfl, upk (by dsimp only; omega) (by dsimp only; decide), okF.one (wrd_e0 rfl (by dsimp only; omega) (by dsimp only; omega) rfl) ak ao, fun d => ?_⟩
                  exact sA d i _ (.tok m1)
    | entries first =>
      rw [exM] at h
      split at h
      · obtain ⟨t, h1, h⟩ := Option.bind_eq_some_iff.1 h
        have key : t.2.2 < 0 → Gd l i t.2.1 (.one { (wordM l b ⟨27, i, 0, e0, 0⟩ i).1 with til := t.2.1 } t.1) (· = 27) := fun hg => by
          obtain ⟨th, tk, te, tq, tO, ts⟩ := ih _ _ _ _ h1 hg
          obtain ⟨g2, m2, e2⟩ := want_m (exM_was h1 hg)
          obtain ⟨g1, m1, e1⟩ := word_m g2
          rw [e1] at m2 e2 ts
          rw [e2] at ts
          dsimp only at *
          rw [e1]
          rw [te] at tO ⊢
          refine ⟨_, _, rfl, rfl, okF.one (wrd_nm rfl (T.word _ m1)) (⟨th.kind, rfl, tq⟩ : ∃ t, _ = [t] ∧ up 3 t) tO, fun d => ?_⟩
          have := ((Sg.one i (kind_lt (by omega))).sgn m2 (by decide)).far (ts d)
          show Sg l i t.2.1 (txt l i ++ [58, 32] ++ prN d th tk)
          simpa [sCol] using this
        split at h
        · injection h with h; subst h; exact LSp.one (key hr)
        · obtain ⟨y, h2, h⟩ := Option.map_eq_some_iff.1 h
          subst h
          have a2 := ih _ _ _ _ h2 hr
          obtain ⟨g1, m1, e1⟩ := want_m (exM_was h2 hr)
          rw [e1] at a2
          exact LSp.more (key g1) m1 a2
      · rename_i hn
        injection h with h; subst h
        cases first
        · exact absurd ⟨hr, by simp⟩ hn
        · exact LSp.nil
end Ps
end Go.Proofs.YtiabkkdeonepgaaGreatDoor
namespace Go.Proofs.YtiabkkdeonepgaaGreatDoor
namespace Ps
def safe (x ds : Bs) : Prop := ∀ c, ds.head? = some c → ((∀ a, x.head? = some a → wdN a.toNat = true → wdN c.toNat = false) ∧ (x = [61] → c ≠ 61))
theorem w_app : ∀ (c : Bool) (x m : Bs), runM wSt wGo c x = x.length → (∀ b, m.head? = some b → wdN b.toNat = false) → runM wSt wGo c (x ++ m) = x.length
  | c, [], m, _, hm => by
    cases m with
    | nil => rfl
    | cons b t => exact runM_stop (hm b rfl)
  | c, b :: t, m, h, hm => by
    by_cases hg : wGo c b.toNat = true
    · rw [List.cons_append, runM_go hg]
      rw [runM_go hg] at h
      simp only [List.length_cons] at h ⊢
      rw [w_app _ t m (by omega) hm]
      omega
    · rw [runM_stop (by simpa using hg)] at h
      simp at h
theorem head_ok {b : UInt8} {t : Bs} (he : (firstL (b :: t)).2.2 = 0) : b.toNat < 128 ∧ lGo false b.toNat = false := by
  have key : letN b.toNat = true ∨ digN b.toNat = true ∨ b.toNat = 34 ∨ b ∈ signs := by
    unfold firstL at he
    rw [if_neg (by simp)] at he
    have e : (b :: t).getD 0 0 = b := rfl
    rw [e] at he
    by_cases h1 : letN b.toNat = true
    · exact .inl h1
    rw [if_neg h1] at he
    by_cases h2 : digN b.toNat = true
    · exact .inr (.inl h2)
    rw [if_neg h2] at he
    by_cases h3 : b.toNat = 34
    · exact .inr (.inr (.inl h3))
    rw [if_neg h3] at he
    unfold signL at he
    by_cases h4 : Lib.hasPrefix (b :: t) [61, 61] = true
    · unfold Lib.hasPrefix at h4
      rw [List.isPrefixOf_iff_prefix] at h4
      obtain ⟨t', ht'⟩ := h4
      injection ht' with h5 h6
      rw [← h5]
      exact .inr (.inr (.inr (by decide)))
    · rw [if_neg h4] at he
      by_cases h5 : 0 ≤ Lib.indexByte signs ((b :: t).getD 0 0)
      · obtain ⟨o, ho⟩ := Int.eq_ofNat_of_zero_le h5
        have := (Lib.indexByte_some ho).1
        exact .inr (.inr (.inr (List.mem_of_getElem? this)))
      · rw [if_neg h5] at he; cases he
  have ar : b.toNat < 128 ∧ b.toNat ≠ 32 ∧ b.toNat ≠ 9 ∧ b.toNat ≠ 10 ∧ b.toNat ≠ 13 ∧ b.toNat ≠ 35 := by
    rcases key with h | h | h | h
    · unfold letN at h
      have := of_decide_eq_true h
      omega
    · unfold digN at h
      have := of_decide_eq_true h
      omega
    · omega
    · have hall : ∀ x ∈ signs, x.toNat < 128 ∧ x.toNat ≠ 32 ∧ x.toNat ≠ 9 ∧ x.toNat ≠ 10 ∧ x.toNat ≠ 13 ∧ x.toNat ≠ 35 := by decide
      exact hall b h
  refine ⟨ar.1, ?_⟩
  unfold lGo cmt blkN
  rw [if_neg (by omega), if_neg (by omega)]
  simp only [Bool.false_or, decide_eq_false_iff_not]
  omega
theorem first_glue (x m : Bs) (he : (firstL x).2.2 = 0) (hk : (firstL x).1 ≠ 0) (hl : (firstL x).2.1 = x.length) (hs : safe x m) : firstL (x ++ m) = firstL x := by
  have hne : x ≠ [] := fun e => hk ((first_kind x he).1.2 e)
  have hl0 : 0 < x.length := List.length_pos_iff.2 hne
  have hg : (x ++ m).getD 0 0 = x.getD 0 0 := by
    simp only [List.getD_eq_getElem?_getD, List.getElem?_append_left hl0]
  have hne2 : x ++ m ≠ [] := by simp [hne]
  have hd : x.head? = some (x.getD 0 0) := by
    cases x with
    | nil => exact absurd rfl hne
    | cons b t => rfl
  have hw : wdN (x.getD 0 0).toNat = true → wLen x = x.length → wLen (x ++ m) = wLen x := fun h1 h2 => by
    rw [h2]
    exact w_app _ _ _ h2 (fun b hb => (hs b hb).1 _ hd h1)
  unfold firstL at he hk hl ⊢
  rw [if_neg hne] at he hk hl ⊢
  rw [if_neg hne2, hg]
  by_cases h1 : letN (x.getD 0 0).toNat = true
  · rw [if_pos h1] at he hk hl
    rw [if_pos h1, if_pos h1]
    have e : wLen x = x.length := by
      unfold wordL at he hl
      split at hl
      · exact hl
      · rename_i h
        rw [if_neg h] at he
        split at hl
        · rename_i h'; rw [if_pos h'] at he; cases he
        · exact hl
    unfold wordL
    rw [hw (by unfold wdN; rw [h1]; rfl) e, e, List.take_append_of_le_length (Nat.le_refl _)]
  rw [if_neg h1] at he hk hl ⊢
  rw [if_neg h1]
  by_cases h2 : digN (x.getD 0 0).toNat = true
  · rw [if_pos h2] at he hk hl
    rw [if_pos h2, if_pos h2]
    have e : wLen x = x.length := by
      unfold numL at he hl
      split at hl
      · exact hl
      · rename_i h
        rw [if_neg h] at he
        cases he
    unfold numL
    rw [hw (by unfold wdN; rw [h2]; simp) e, e, List.take_append_of_le_length (Nat.le_refl _)]
  rw [if_neg h2] at he hk hl ⊢
  rw [if_neg h2]
  by_cases h3 : (x.getD 0 0).toNat = 34
  · rw [if_pos h3] at he hk hl ⊢
    rw [if_pos h3]
    have hu : (unq (x.take (qLong x))).isSome = true := by
      unfold quotL at he
      split at he
      · assumption
      · cases he
    have hle : qLong x ≤ x.length := Nat.min_le_right _ _
    obtain ⟨h2n, M, r, hx, hM, hum⟩ := quot_parts x _ hle hu
    obtain ⟨o, ho⟩ := Option.isSome_iff_exists.1 hum
    have hq : qLong (x ++ m) = qLong x := by
      have hd : (x ++ m).drop 1 = M ++ 34 :: (r ++ m) := by rw [hx]; simp
      have hr : qLen (M ++ 34 :: (r ++ m)) = M.length := um_run M false o _ ho
      unfold qLong
      rw [hd, hr]
      unfold qLong at hM hle
      rw [List.length_append]
      have : 0 < x.length := hl0
      unfold qLong at h2n
      omega
    unfold quotL
    rw [hq, List.take_append_of_le_length hle]
  rw [if_neg h3] at he hk hl ⊢
  rw [if_neg h3]
  have hp : Lib.hasPrefix (x ++ m) [61, 61] = Lib.hasPrefix x [61, 61] := by
    unfold Lib.hasPrefix
    match x, hne with
    | [a], _ =>
      by_cases ha : a = 61
      · subst ha
        cases m with
        | nil => rfl
        | cons c t =>
          have := (hs c rfl).2 rfl
          simp [List.isPrefixOf, Ne.symm this]
      · simp [List.isPrefixOf, Ne.symm ha]
    | a :: b :: t, _ => simp [List.isPrefixOf]
  unfold signL
  rw [hg, hp]
theorem lead_all : ∀ (sep ds : Bs), blank sep → (∀ b, ds.head? = some b → lGo false b.toNat = false) → runM cmt lGo false (sep ++ ds) = sep.length
  | [], ds, _, h => by
    cases ds with
    | nil => rfl
    | cons b t => exact runM_stop (h b rfl)
  | c :: sep, ds, hb, h => by
    have hc : lGo false c.toNat = true ∧ cmt false c.toNat = false := by
      rcases hb c (List.mem_cons_self) with rfl | rfl <;> decide
    rw [List.cons_append, runM_go hc.1, hc.2, lead_all sep ds (fun x hx => hb x (List.mem_cons_of_mem _ hx)) h, List.length_cons]
    omega
inductive Lin (l : List Tok) : Nat → Bs → Prop
  | nil (j : Nat) (ds : Bs) (h : j + 1 = l.length) (hb : blank ds) : Lin l j ds
  | cons (j : Nat) (sep ds : Bs) (h : j + 1 < l.length) (hb : blank sep) (hs : safe (txt l j) ds) (hr : Lin l (j + 1) ds) : Lin l j (sep ++ txt l j ++ ds)
theorem Lin.lead {l : List Tok} {j : Nat} {sep ds : Bs} (h : Lin l j ds) (hb : blank sep) : Lin l j (sep ++ ds) := by
  have ba : ∀ {s t : Bs}, blank s → blank t → blank (s ++ t) := fun h1 h2 c hc => by
    rcases List.mem_append.1 hc with hc | hc
    · exact h1 c hc
    · exact h2 c hc
  cases h with
  | nil _ _ h hb' => exact .nil j _ h (ba hb hb')
  | cons _ sep' ds' h hb' hs hr =>
    have := Lin.cons j (sep ++ sep') ds' h (ba hb hb') hs hr
    simpa using this
structure LexOk (l : List Tok) : Prop where
  one : ∀ i (h : i + 1 < l.length), firstL (txt l i) = (l[i].kind, (txt l i).length, 0) ∧ l[i].kind ≠ 0
  fin : ∀ i (h : i < l.length), i + 1 = l.length → l[i].kind = 0 ∧ l[i].text = ⟨#[]⟩
  utf : ∀ i, i + 1 < l.length → badAt (txt l i) = none
  sz : ∀ i, i + 1 < l.length → (txt l i).length ≤ 16384
theorem LexOk.ne {l : List Tok} (h : LexOk l) {i : Nat} (hi : i + 1 < l.length) : txt l i ≠ [] := fun e => by
  obtain ⟨h1, h2⟩ := h.one i hi
  rw [e] at h1
  have := congrArg Prod.fst h1
  exact h2 this.symm
theorem Sg.head {l : List Tok} {i j : Nat} {bs : Bs} (h : Sg l i j bs) : ∃ t, bs = txt l i ++ t := by
  induction h with
  | one i h => exact ⟨[], by simp⟩
  | @two i j k bs sep cs h1 h2 hb hs i1 i2 =>
    obtain ⟨t, rfl⟩ := i1
    exact ⟨t ++ (sep ++ cs), by simp⟩
theorem blank_head {s : Bs} (h : blank s) {c : UInt8} (hc : s.head? = some c) : wdN c.toNat = false ∧ c ≠ 61 := by
  cases s with
  | nil => cases hc
  | cons a t =>
    injection hc with hc
    subst hc
    rcases h a List.mem_cons_self with rfl | rfl <;> decide
theorem Sg.lin {l : List Tok} (F : LexOk l) {i k : Nat} {bs : Bs} (h : Sg l i k bs) : ∀ ds, Lin l k ds → safe (txt l (k - 1)) ds → k < l.length → Lin l i (bs ++ ds) := by
  induction h with
  | one i h => intro ds hd hs hk; exact Lin.cons i [] ds hk blank0 hs hd
  | @two i j k bs sep cs h1 h2 hb hs i1 i2 =>
    intro ds hd hsf hk
    have hj := h2.lt
    have l2 := i2 ds hd hsf hk
    have l3 := l2.lead hb
    have := i1 _ l3 ?_ (by omega)
    · simpa using this
    · intro c hc
      cases sep with
      | cons a t =>
        have hc' : (a :: t).head? = some c := by simpa using hc
        exact ⟨fun _ _ _ => (blank_head hb hc').1, fun _ => (blank_head hb hc').2⟩
      | nil =>
        obtain ⟨t, rfl⟩ := h2.head
        have hne := F.ne (i := j) (by omega)
        rcases hs with h | h | h
        · exact absurd rfl h
        · have hc' : (txt l j).head? = some c := by
            cases hx : txt l j with
            | nil => exact absurd hx hne
            | cons a u => rw [hx] at hc; simpa using hc
          cases hx : txt l j with
          | nil => exact absurd hx hne
          | cons a u =>
            rw [hx] at hc' h
            injection hc' with hc'
            subst hc'
            simp only [soft, Bool.and_eq_true, Bool.not_eq_true', bne_iff_ne, ne_eq] at h
            exact ⟨fun _ _ _ => h.1, fun _ => h.2⟩
        · cases hx : txt l (j - 1) with
          | nil => rw [hx] at h; cases h
          | cons a u =>
            rw [hx] at h
            simp only [hard, Bool.and_eq_true, Bool.not_eq_true', bne_iff_ne, ne_eq] at h
            refine ⟨fun b hb' hw => ?_, fun e => absurd e h.2⟩
            injection hb' with hb'
            subst hb'
            rw [h.1] at hw; cases hw
theorem byt_inj {a b : ByteArray} (h : a.data.toList = b.data.toList) : a = b := by
  obtain ⟨⟨a⟩⟩ := a
  obtain ⟨⟨b⟩⟩ := b
  simpa using h
theorem txt_eq {l : List Tok} {i : Nat} (h : i < l.length) : txt l i = l[i].text.data.toList := by
  unfold txt textAt
  rw [List.getElem?_eq_getElem h]
  rfl
theorem lin_lex (u : ByteArray) {l : List Tok} (F : LexOk l) : ∀ j ds, Lin l j ds → ∀ k n f, k ≤ u.size → tl u k = ds → n + (l.length - j) ≤ 4000 → ds.length < f → ∃ C, lexF u f k n = .good C ∧ C.map kt = (l.drop j).map kt := by
  intro j ds h
  induction h with
  | nil j ds h hb =>
    intro k n f hk ht hn hf
    obtain ⟨f, rfl⟩ : ∃ g, f = g + 1 := ⟨f - 1, by omega⟩
    have hlen : (tl u k).length = u.size - k := tl_len u k
    have ha : atK u k = u.size := by
      unfold atK lLen
      have e : tl u k = ds ++ [] := by rw [ht]; simp
      rw [e, lead_all ds [] hb (fun b hb => by cases hb)]
      rw [ht] at hlen
      omega
    have hnil : tl u (atK u k) = [] := tl_end u _ (by omega)
    have he : errK u k = 0 := by unfold errK; rw [hnil]; rfl
    have h0 : (tokK u k).kind = 0 := by show (firstL (tl u (atK u k))).1 = 0; rw [hnil]; rfl
    have h1 : (tokK u k).text = ⟨#[]⟩ := by
      show u.extract (atK u k) (atK u k + (firstL (tl u (atK u k))).2.1) = _
      rw [hnil]
      exact ext_none u _
    refine ⟨[tokK u k], lexF_end he (by omega) h0, ?_⟩
    have hj : j < l.length := by omega
    rw [List.drop_eq_getElem_cons hj, List.drop_eq_nil_of_le (by omega)]
    obtain ⟨f1, f2⟩ := F.fin j hj h
    simp only [List.map_cons, List.map_nil, kt, h0, h1, f1, f2]
  | cons j sep ds h hb hs hr ih =>
    intro k n f hk ht hn hf
    obtain ⟨f, rfl⟩ : ∃ g, f = g + 1 := ⟨f - 1, by omega⟩
    obtain ⟨o1, o2⟩ := F.one j h
    have hne := F.ne h
    have hlen : (tl u k).length = u.size - k := tl_len u k
    rw [ht] at hlen
    simp only [List.length_append] at hlen hf
    have hx0 : 0 < (txt l j).length := List.length_pos_iff.2 hne
    have hhd : ∀ b, (txt l j ++ ds).head? = some b → lGo false b.toNat = false := fun b hb' => by
      cases hx : txt l j with
      | nil => exact absurd hx hne
      | cons a t =>
        rw [hx] at hb' o1
        simp only [List.cons_append, List.head?_cons, Option.some.injEq] at hb'
        subst hb'
        exact (head_ok (t := t) (by rw [o1])).2
    have ha : atK u k = k + sep.length := by
      unfold atK lLen
      rw [ht, List.append_assoc, lead_all sep _ hb hhd]
    have hat : tl u (atK u k) = txt l j ++ ds := by
      rw [ha, ← tl_drop, ht, List.append_assoc, List.drop_left]
    have hfi : firstL (tl u (atK u k)) = (l[j].kind, (txt l j).length, 0) := by
      rw [hat, first_glue (txt l j) ds (by rw [o1]) (by rw [o1]; exact o2) (by rw [o1]) hs, o1]
    have he : errK u k = 0 := by unfold errK; rw [hfi]
    have hkd : (tokK u k).kind = l[j].kind := by show (firstL (tl u (atK u k))).1 = _; rw [hfi]
    have hen : endK u k = k + sep.length + (txt l j).length := by unfold endK; rw [hfi, ha]
    have htx : (tokK u k).text = l[j].text := by
      apply byt_inj
      rw [tok_text, hfi, hat, List.take_left, txt_eq (by omega)]
    obtain ⟨C, h1, h2⟩ := ih (endK u k) (n + 1) f (by omega) (by
      rw [hen, Nat.add_assoc, ← tl_drop, ht]
      rw [List.append_assoc, ← List.append_assoc, ← List.length_append, List.drop_left]) (by omega) (by omega)
    refine ⟨tokK u k :: C, ?_, ?_⟩
    · rw [lexF_next he (by omega) (by rw [hkd]; exact o2), h1]
      rfl
    · rw [List.drop_eq_getElem_cons (by omega : j < l.length), List.map_cons, List.map_cons, h2]
      congr 1
      unfold kt
      rw [hkd, htx]
theorem Sg.utf {l : List Tok} (F : LexOk l) {i k : Nat} {bs : Bs} (h : Sg l i k bs) (hk : k < l.length) : badAt bs = none := by
  have asc : ∀ {s : Bs}, blank s → badAt s = none := fun hb => ascii_good _ fun b hb' => by
    rcases hb b hb' with rfl | rfl <;> decide
  induction h with
  | one i h => exact F.utf i hk
  | two h1 h2 hb hs i1 i2 => exact good_app (good_app (i1 (by have := h2.lt; omega)) (asc hb)) (i2 hk)
theorem lexR_ok {s : ByteArray} {l : List Tok} (h : lexR s = .good l) : LexOk l := by
  have W := lexR_wf h (lexR_len h)
  have hg : s.size ≤ 16384 ∧ badAt s.data.toList = none ∧ ∀ t ∈ l, ∃ k, t = tokK s k ∧ errK s k = 0 := by
    unfold lexR at h
    split at h
    · cases h
    · split at h
      · cases h
      · rename_i ha hb
        exact ⟨by omega, by simpa using hb, lexF_mem s _ _ _ _ h⟩
  obtain ⟨hsi, hu, hm⟩ := hg
  have len : ∀ i (h : i + 1 < l.length), (txt l i).length ≤ 16384 := fun i hi => by
    obtain ⟨k, ek, he⟩ := hm l[i] (List.getElem_mem _)
    have et : txt l i = (tl s (atK s k)).take (firstL (tl s (atK s k))).2.1 := by rw [txt_eq (by omega), ek, tok_text]
    have e1 : (tl s (atK s k)).length ≤ s.data.toList.length := by unfold tl; rw [List.length_drop]; omega
    have e2 : s.data.toList.length = s.size := by simp
    rw [et, List.length_take]
    omega
  have main : ∀ i (h : i + 1 < l.length), firstL (txt l i) = (l[i].kind, (txt l i).length, 0) ∧ l[i].kind ≠ 0 ∧ badAt (txt l i) = none := fun i hi => by
    obtain ⟨k, ek, he⟩ := hm l[i] (List.getElem_mem _)
    have h0 := W.conv i (by omega) hi
    have et : txt l i = (tl s (atK s k)).take (firstL (tl s (atK s k))).2.1 := by rw [txt_eq (by omega), ek, tok_text]
    have hk : (firstL (tl s (atK s k))).1 = l[i].kind := by rw [ek]; rfl
    rw [← hk] at h0
    have hle := first_le (tl s (atK s k))
    have ef := first_take (tl s (atK s k)) _ he h0 (Nat.le_refl _) hle
    rw [← et] at ef
    have hlen : (txt l i).length = (firstL (tl s (atK s k))).2.1 := by rw [et, List.length_take]; omega
    have hpos : (firstL (tl s (atK s k))).2.1 ≠ 0 := fun e => h0 ((first_kind _ he).1.2 ((first_kind _ he).2.1 e))
    refine ⟨?_, by rw [← hk]; exact h0, ?_⟩
    · rw [ef, ← hk, hlen]
      unfold errK at he
      rw [← he]
    · have hne : tl s (atK s k) ≠ [] := fun e => h0 ((first_kind _ he).1.2 e)
      have h128 : ((tl s (atK s k)).getD 0 0).toNat < 128 := by
        unfold errK at he
        cases hx : tl s (atK s k) with
        | nil => exact absurd hx hne
        | cons b t => rw [hx] at he; exact (head_ok he).1
      have hsz : atK s k < s.data.toList.length := by
        rcases Nat.lt_or_ge (atK s k) s.data.toList.length with h' | h'
        · exact h'
        · exact absurd (List.drop_eq_nil_of_le h') hne
      have hd : badAt (tl s (atK s k)) = none := (cut_ok s.data.toList hu (atK s k) (by omega) (fun _ => by
        have : s.data.toList.getD (atK s k) 0 = (tl s (atK s k)).getD 0 0 := by simp [tl, List.getD_eq_getElem?_getD]
        rw [this]; omega)).2.1
      have hlow := first_low _ he h0
      rw [et]
      have := cut_low _ hd ((firstL (tl s (atK s k))).2.1 - 1) (by omega) hlow
      rwa [Nat.sub_add_cancel (by omega)] at this
  refine ⟨fun i hi => ⟨(main i hi).1, (main i hi).2.1⟩, fun i hi hl => ?_, fun i hi => (main i hi).2.2, len⟩
  obtain ⟨k, ek, he⟩ := hm l[i] (List.getElem_mem _)
  have h0 : l[i].kind = 0 := by
    by_cases hk : l[i].kind = 0
    · exact hk
    · have := W.next i hi hk; omega
  refine ⟨h0, ?_⟩
  rw [ek] at h0 ⊢
  have hnil : tl s (atK s k) = [] := (first_kind _ he).1.1 h0
  show s.extract (atK s k) (atK s k + (firstL (tl s (atK s k))).2.1) = _
  rw [hnil]
  exact ext_none s _
end Ps
end Go.Proofs.YtiabkkdeonepgaaGreatDoor
namespace Go.Proofs.YtiabkkdeonepgaaGreatDoor
namespace Ps
open Pg
variable {l l' : List Tok}
theorem same_get (h : l'.map kt = l.map kt) (i : Nat) : (l'[i]?).map kt = (l[i]?).map kt := by
  have := congrArg (fun x => x[i]?) h
  simpa using this
theorem same_isM (h : l'.map kt = l.map kt) : isM l' = isM l := by
  funext i x
  have := same_get h i
  unfold isM
  cases h1 : l'[i]? with
  | none =>
    cases h2 : l[i]? with
    | none => rfl
    | some t => rw [h1, h2] at this; cases this
  | some t' =>
    cases h2 : l[i]? with
    | none => rw [h1, h2] at this; cases this
    | some t =>
      rw [h1, h2] at this
      injection this with this
      injection this with e1 e2
      dsimp only
      rw [e1, e2]
theorem same_kind (h : l'.map kt = l.map kt) : kindAt l' = kindAt l := by
  funext i
  have := congrArg (Option.map Prod.fst) (same_get h i)
  simp only [Option.map_map] at this
  unfold kindAt
  exact congrArg (fun o => o.getD 0) this
theorem same_text (h : l'.map kt = l.map kt) : textAt l' = textAt l := by
  funext i
  have := congrArg (Option.map Prod.snd) (same_get h i)
  simp only [Option.map_map] at this
  unfold textAt
  exact congrArg (fun o => o.getD e0) this
theorem same_want (h : l'.map kt = l.map kt) : wantM l' = wantM l := by
  funext b i x; unfold wantM; rw [same_isM h]
theorem same_word (h : l'.map kt = l.map kt) : wordM l' = wordM l := by
  funext b hd i; unfold wordM; rw [same_kind h, same_text h]
theorem same_ty (h : l'.map kt = l.map kt) : ∀ (f : Nat) (t : TT) (b : Int) (i : Nat), tyM l' f t b i = tyM l f t b i := by
  have hm := same_isM h
  have hw := same_want h
  have hd := same_word h
  intro f
  induction f with
  | zero => intro t b i; rw [tyM, tyM]
  | succ f ih => intro t b i; cases t <;> (rw [tyM, tyM]; simp only [hm, hw, hd, ih])
theorem same_typed (h : l'.map kt = l.map kt) (f : Nat) (b : Int) (i : Nat) : typedM l' f b i = typedM l f b i := by
  unfold typedM
  rw [same_isM h, same_ty h]
theorem same_par (h : l'.map kt = l.map kt) : ∀ (f : Nat) (first : Bool) (b : Int) (i : Nat), parL l' f first b i = parL l f first b i := by
  have hm := same_isM h
  have hw := same_want h
  have hd := same_word h
  have ht := same_typed h
  intro f
  induction f with
  | zero => intro t b i; rw [parL, parL]
  | succ f ih => intro t b i; rw [parL, parL]; simp only [hm, hw, hd, ht, ih]
theorem same_ex (h : l'.map kt = l.map kt) : ∀ (f : Nat) (t : XT) (b : Int) (i : Nat), exM l' f t b i = exM l f t b i := by
  have hm := same_isM h
  have hw := same_want h
  have hd := same_word h
  have ht := same_typed h
  have hk := same_kind h
  have hx := same_text h
  have hp : ∀ f b i, paramsM l' f b i = paramsM l f b i := fun f b i => by unfold paramsM; simp only [hw, same_par h]
  intro f
  induction f with
  | zero => intro t b i; rw [exM, exM]
  | succ f ih => intro t b i; cases t <;> (rw [exM, exM]; simp only [hm, hw, hd, ht, hk, hx, hp, ih])
theorem same_items (h : l'.map kt = l.map kt) : ∀ (f : Nat) (b : Int) (i : Nat), itemsM l' f b i = itemsM l f b i := by
  have hm := same_isM h
  have hw := same_want h
  have hd := same_word h
  have hk := same_kind h
  have hu : ∀ b i, useM l' b i = useM l b i := fun b i => by unfold useM; simp only [hw, hd]
  have hf : ∀ f b i, defM l' f b i = defM l f b i := fun f b i => by unfold defM; simp only [hw, hd, same_ex h]
  intro f
  induction f with
  | zero => intro b i; rw [itemsM, itemsM]
  | succ f ih => intro b i; rw [itemsM, itemsM]; simp only [hm, hk, hu, hf, ih]
theorem same_parse (h : l'.map kt = l.map kt) : parseM l' = parseM l := by
  have hlen : l'.length = l.length := by simpa using congrArg List.length h
  unfold parseM
  rw [same_items h]
  unfold wholeM
  rw [hlen]
theorem use_gd (T : TokF l) {b : Int} {i : Nat} (hm : isM l i kUse = true) (hr : (useM l b i).2.2 < 0) : Gd l i (useM l b i).2.1 (useM l b i).1 (· = 2) := by
  obtain ⟨hb, k1, m2, k3, m4⟩ := use_good hr
  rw [use_of hb k1 m2 k3 m4]
  dsimp only
  refine ⟨_, _, rfl, rfl, okF.one (wrd_nm rfl (T.word _ k3)) rfl (okF.one (wrd_nm rfl (T.word _ k1)) rfl trivial), fun d => ?_⟩
  have s1 := ((Sg.tok hm).far (Sg.one (i + 1) (kind_lt (by omega)))).sgn m2 (by decide)
  have s2 := (s1.hrd (Sg.one (i + 3) (kind_lt (by omega))) (x := sDot) m2 (by decide)).sgn m4 (by decide)
  show Sg l i (i + 5) ([117, 115, 101, 32] ++ txt l (i + 1) ++ [46] ++ txt l (i + 3) ++ [59])
  simpa [kUse, sDot, sSem] using s2
theorem def_gd (T : TokF l) {f : Nat} {b : Int} {i : Nat} {r : Fo × Nat × Int} (h : defM l f b i = some r) (hr : r.2.2 < 0) : Gd l i r.2.1 r.1 (· = 3) := by
  unfold defM at h
  obtain ⟨k, h1, h⟩ := Option.bind_eq_some_iff.1 h
  injection h with h; subst h
  have a : LamG l _ k.1 k.2.1 := ex_gd T _ _ _ _ _ h1 hr
  obtain ⟨g1, k0, e1⟩ := word_m (exM_was h1 hr)
  obtain ⟨_, m1, e2⟩ := want_m g1
  rw [e2] at k0 e1
  rw [e2, e1] at a
  rw [e2, e1]
  obtain ⟨ao, ak, sA⟩ := a
  dsimp only at *
  refine ⟨_, _, rfl, rfl, okF.one (wrd_nm rfl (T.word _ k0)) ak ao, fun d => ?_⟩
  have s1 := sA d i _ ((Sg.tok m1).far (Sg.one (i + 1) (kind_lt (by omega))))
  show Sg l i k.2.1 ([100, 101, 102, 32] ++ txt l (i + 1) ++ fnB (prt d k.1))
  simpa [kDef] using s1
def ItG (l : List Tok) (i : Nat) (f : Fo) (j : Nat) : Prop :=
  okF f ∧ (∀ x ∈ f.kinds, x = 2 ∨ x = 3) ∧ (f = .nil → j = i) ∧ (∀ a i0 bs, Sg l i0 i bs → ∃ cs, Sg l i0 j cs ∧ bs ++ [10] ++ itemsB (some a) (prt 0 f) = cs ++ [10]) ∧ (f ≠ .nil → ∃ cs, Sg l i j cs ∧ itemsB none (prt 0 f) = cs ++ [10]) ∧ kindAt l j = 0
theorem ItG.more {i m j : Nat} {n f : Fo} {p : Nat → Prop} (hn : Gd l i m n p) (hp : ∀ x, p x → x = 2 ∨ x = 3) (hf : ItG l m f j) : ItG l i (n.app f) j := by
  obtain ⟨nh, nk, rfl, np, no, ns⟩ := hn
  obtain ⟨fo, fk, fn, fs, _, fz⟩ := hf
  refine ⟨no.app fo, fun z hz => ?_, fun e => (by simp [Fo.one, Fo.app] at e), fun a i0 bs hb => ?_, fun _ => ?_, fz⟩
  · rw [Fo.kinds_app] at hz
    rcases List.mem_append.1 hz with hz | hz
    · simp [Fo.one, Fo.kinds] at hz; rw [hz]; exact hp _ np
    · exact fk z hz
  · obtain ⟨sep, hs⟩ : ∃ sep : Bs, sep = if (some a = some 3 ∨ ((some a).isSome ∧ nh.kind = 3)) then [10] else [] := ⟨_, rfl⟩
    have hbl : blank ([10] ++ sep) := fun c hc => by
      rw [hs] at hc
      split at hc <;> simp at hc <;> exact .inr hc
    have s1 := hb.two (ns 0) hbl (.inl (by simp))
    obtain ⟨cs, c1, c2⟩ := fs nh.kind i0 _ s1
    refine ⟨cs, c1, ?_⟩
    rw [← c2, prt_app, prt_one]
    show bs ++ [10] ++ ((if (some a = some 3 ∨ ((some a).isSome ∧ nh.kind = 3)) then [10] else []) ++ prN 0 nh nk ++ [10] ++ itemsB (some nh.kind) (prt 0 f)) = _
    rw [← hs]
    simp
  · obtain ⟨cs, c1, c2⟩ := fs nh.kind i _ (ns 0)
    refine ⟨cs, c1, ?_⟩
    rw [← c2, prt_app, prt_one]
    show ([] : Bs) ++ prN 0 nh nk ++ [10] ++ itemsB (some nh.kind) (prt 0 f) = _
    simp
theorem items_gd (T : TokF l) : ∀ (f : Nat) (b : Int) (i : Nat) (r : Fo × Nat × Int), itemsM l f b i = some r → r.2.2 < 0 → ItG l i r.1 r.2.1 := by
  intro f
  induction f with
  | zero => intro b i r h; rw [itemsM] at h; cases h
  | succ f ih =>
    intro b i r h hr
    have hb : b < 0 := by
      by_cases hh : 0 ≤ b
      · have := items_bad hh h; omega
      · omega
    have was : ∀ {g : Nat} {c : Int} {j : Nat} {y : Fo × Nat × Int}, itemsM l g c j = some y → y.2.2 < 0 → c < 0 := fun hy hg => by
      rename_i c _ _
      by_cases hh : 0 ≤ c
      · have := items_bad hh hy; omega
      · omega
    rw [itemsM] at h
    split at h
    · split at h
      · rename_i hu
        obtain ⟨x, h1, h⟩ := Option.map_eq_some_iff.1 h
        subst h
        exact ItG.more (use_gd T hu (was h1 hr)) (fun x hx => .inl hx) (ih _ _ _ h1 hr)
      · obtain ⟨t, h0, h⟩ := Option.bind_eq_some_iff.1 h
        obtain ⟨x, h1, h⟩ := Option.map_eq_some_iff.1 h
        subst h
        exact ItG.more (def_gd T h0 (was h1 hr)) (fun x hx => .inr hx) (ih _ _ _ h1 hr)
    · rename_i hc
      injection h with h; subst h
      refine ⟨trivial, fun x hx => (by cases hx), fun _ => rfl, fun a i0 bs hs => ⟨bs, hs, by simp [prt, itemsB]⟩, fun e => absurd rfl e, ?_⟩
      by_cases hk : kindAt l i = 0
      · exact hk
      · exact absurd ⟨hb, hk⟩ hc
theorem items_lt (W : Wf2 l) {r : Fo × Nat × Int} (h : itemsM l fuel (-1) 0 = some r) (hr : r.2.2 < 0) : r.2.1 < l.length := by
  obtain ⟨q, hq, hb⟩ := items_some W.toWf
  rw [h] at hq
  injection hq with hq
  subst hq
  exact hb hr
theorem tokF_of (F : LexOk l) (W : Wf2 l) : TokF l := by
  have key : ∀ i k, kindAt l i = k → k ≠ 0 → firstL (txt l i) = (k, (txt l i).length, 0) := fun i k h hk => by
    have hi := kind_lt (l := l) (i := i) (by omega)
    have e := kindAt_get hi
    have h1 : i + 1 < l.length := W.next i hi (by omega)
    rw [(F.one i h1).1, ← e, h]
  have wk : ∀ i k, kindAt l i = k → k ≠ 0 → okW (textAt l i) := fun i k h hk => by
    have hi := kind_lt (l := l) (i := i) (by omega)
    have e := kindAt_get hi
    have h1 : i + 1 < l.length := W.next i hi (by omega)
    exact ⟨F.utf i h1, by have := F.sz i h1; exact this⟩
  exact ⟨fun i h => key i 1 h (by omega), fun i h => ⟨key i 3 h (by omega), wk i 3 h (by omega)⟩, fun i h => ⟨key i 4 h (by omega), wk i 4 h (by omega)⟩⟩
theorem print_of {s : ByteArray} {h : Hd} {k : Fo} (hs : ofM s = .ok l h k) :
    okF (.one h k) ∧ h.kind = 1 ∧ k.deep ≤ 59 ∧ (k ≠ .nil → ∃ i cs, i ≤ 4000 ∧ LexOk l ∧ Sg l 0 i cs ∧ fileB k = cs ++ [10]) ∧ ((fileB k).length ≤ 16384 → ∃ C, ofM ⟨(fileB k).toArray⟩ = .ok C h k ∧ C.map kt = l.map kt) := by
  unfold ofM at hs
  cases hx : lexR s with
  | bad e a => rw [hx] at hs; cases hs
  | good L =>
    rw [hx] at hs
    dsimp only at hs
    cases hp : parseM L with
    | bad e a => rw [hp] at hs; cases hs
    | ok h' k' =>
      rw [hp] at hs
      injection hs with e1 e2 e3
      subst e1 e2 e3
      have hlen := lexR_len hx
      have W := lexR_wf hx hlen
      have F := lexR_ok hx
      have T := tokF_of F W
      obtain ⟨q, hq, _⟩ := items_some W.toWf
      have hp' := hp
      unfold parseM at hp
      rw [hq] at hp
      dsimp only at hp
      unfold wholeM at hp
      split at hp
      · cases hp
      · rename_i hb
        split at hp
        · cases hp
        · rename_i hn
          simp only [Fo.one] at hp
          split at hp
          · cases hp
          · rename_i hd
            injection hp with e1 e2
            subst e1 e2
            dsimp only at hb hn
            obtain ⟨io, ik, inil, _, is, iz⟩ := items_gd T _ _ _ _ hq (by omega)
            have hl : q.2.1 + 1 = L.length := by
              by_cases hz : q.2.1 < L.length
              · omega
              · have hpos := W.pos
                rcases Nat.lt_or_ge q.2.1 L.length with h1 | h1
                · exact absurd h1 hz
                · exfalso
                  by_cases hf : q.1 = .nil
                  · have := inil hf; omega
                  · obtain ⟨cs, c1, _⟩ := is hf
                    have h2 := c1.lt
                    have h3 := items_lt W hq (by omega)
                    omega
            refine ⟨okF.one (wrd_e0 rfl (by dsimp only; omega) (by dsimp only; omega) rfl) ik io, rfl, by omega, fun hf => ?_, fun hsz => ?_⟩
            · obtain ⟨cs, c1, c2⟩ := is hf
              exact ⟨_, cs, by have := c1.lt; omega, F, c1, c2⟩
            have hlin : Lin L 0 (fileB q.1) ∧ badAt (fileB q.1) = none := by
              by_cases hf : q.1 = .nil
              · have := inil hf
                rw [hf]
                exact ⟨Lin.nil 0 [] (by omega) blank0, bad_nil⟩
              · obtain ⟨cs, c1, c2⟩ := is hf
                have e : fileB q.1 = cs ++ [10] := c2
                rw [e]
                have hbl : blank [10] := fun c hc => by simp at hc; exact .inr hc
                refine ⟨c1.lin F [10] (Lin.nil _ _ hl hbl) (fun c hc => ?_) (by omega), good_app (c1.utf F (by omega)) (ascii_good _ fun b hb' => by simp at hb'; rw [hb']; decide)⟩
                simp at hc
                subst hc
                exact ⟨fun _ _ _ => by decide, fun _ => by decide⟩
            obtain ⟨C, c1, c2⟩ := lin_lex ⟨(fileB q.1).toArray⟩ F 0 (fileB q.1) hlin.1 0 0 ((fileB q.1).length + 1) (Nat.zero_le _) (by simp [tl]) (by omega) (by omega)
            rw [List.drop_zero] at c2
            have hlex : lexR ⟨(fileB q.1).toArray⟩ = .good C := by
              have es : (⟨(fileB q.1).toArray⟩ : ByteArray).size = (fileB q.1).length := by simp [ByteArray.size]
              unfold lexR
              rw [if_neg (by rw [es]; omega), if_neg (by simp [hlin.2]), es]
              exact c1
            refine ⟨C, ?_, c2⟩
            unfold ofM
            rw [hlex]
            dsimp only
            rw [same_parse c2, hp']
end Ps
end Go.Proofs.YtiabkkdeonepgaaGreatDoor
