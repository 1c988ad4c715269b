import Derived.Test.YthjflofcgdfekaaGreatDoorBase
namespace Go.Proofs.YthjflofcgdfekaaGreatDoor
namespace Sc
structure Hi where
  kind : Int
  fro : Int
  til : Int
  word : ByteArray
  at_ : Int
inductive Tr where
  | nil
  | cons (h : Hi) (kids rest : Tr)
def Tr.len : Tr → Nat
  | .nil => 0
  | .cons _ _ r => r.len + 1
def Tr.cnt : Tr → Nat
  | .nil => 0
  | .cons _ k r => k.cnt + r.cnt + 1
def Tr.drop : Nat → Tr → Tr
  | 0, t => t
  | _ + 1, .nil => .nil
  | n + 1, .cons _ _ r => r.drop n
theorem Tr.drop_nil (n : Nat) : Tr.drop n .nil = .nil := by cases n <;> rfl
theorem Tr.drop_zero (t : Tr) : t.drop 0 = t := by cases t <;> rfl
theorem Tr.drop_cons : ∀ (t : Tr) (n : Nat), n < t.len → ∃ h k, t.drop n = .cons h k (t.drop (n + 1))
  | .nil, n, h => by simp [Tr.len] at h
  | .cons a b c, 0, h => ⟨a, b, by rw [Tr.drop_zero, Tr.drop, Tr.drop_zero]⟩
  | .cons a b c, n + 1, h => by
    obtain ⟨x, y, e⟩ := Tr.drop_cons c n (by simp [Tr.len] at h; omega)
    exact ⟨x, y, by rw [Tr.drop, Tr.drop, e]⟩
theorem Tr.drop_len : ∀ (t : Tr) (n : Nat), t.len ≤ n → t.drop n = .nil
  | .nil, n, _ => Tr.drop_nil n
  | .cons a b c, 0, h => by simp [Tr.len] at h
  | .cons a b c, n + 1, h => by rw [Tr.drop]; exact Tr.drop_len c n (by simp [Tr.len] at h; omega)
theorem Tr.drop_cnt : ∀ (t : Tr) (n : Nat), (t.drop n).cnt ≤ t.cnt
  | .nil, n => by rw [Tr.drop_nil]; exact Nat.le_refl _
  | .cons a b c, 0 => by rw [Tr.drop_zero]; exact Nat.le_refl _
  | .cons a b c, n + 1 => by rw [Tr.drop, Tr.cnt]; have := Tr.drop_cnt c n; omega
theorem Tr.len_cnt : ∀ (t : Tr), t.len ≤ t.cnt
  | .nil => Nat.le_refl _
  | .cons _ _ r => by rw [Tr.len, Tr.cnt]; have := Tr.len_cnt r; omega
structure Bd where
  at_ : Int
  kind : Int
  word : ByteArray
  item : Int
structure Mn where
  at_ : Int
  to : Int
  write : Bool
  far : Int
structure St where
  bs : List Bd
  ms : List Mn
  bad : List (Int × Int)
  means : ByteArray → Int
  here : ByteArray → Option Int
  lam : Int
  within : List Int
  item : Int
def up {β : Type} (f : ByteArray → β) (x : ByteArray) (v : β) : ByteArray → β := fun y => if y = x then v else f y
def St.wrong (s : St) (a e : Int) : St := { s with bad := s.bad ++ [(a, e)] }
def isItem (b : Bd) : Bool := b.kind == 1 || b.kind == 2
def bind0 (a : Int) (word : ByteArray) (s : St) : St :=
  if (s.here word).isSome then s.wrong a 31 else { s with here := up s.here word (some (s.means word)) }
def bind (a : Int) (word : ByteArray) (kind : Int) (s : St) : St :=
  { bind0 a word s with means := up s.means word s.bs.length, within := s.within ++ [s.lam], bs := s.bs ++ [⟨a, kind, word, s.item⟩] }
def men0 (a : Int) (word : ByteArray) (write : Bool) (s : St) : St × Int :=
  if s.means word = -1 then (s.wrong a 30, 0)
  else match s.bs[(s.means word).toNat]? with
    | none => (s, 0)
    | some b =>
      if isItem b = false then (s, s.lam - s.within.getD (s.means word).toNat 0)
      else (if write = true then s.wrong a 35 else s, 0)
def mention (a : Int) (word : ByteArray) (write : Bool) (s : St) : St :=
  { (men0 a word write s).1 with ms := s.ms ++ [⟨a, s.means word, write, (men0 a word write s).2⟩] }
def leave (o : St) (s : St) : St := { s with means := fun x => (s.here x).getD (s.means x), here := o.here, lam := o.lam }
def enter (l : Int) (s : St) : St := { s with here := fun _ => none, lam := s.lam + l }
def node (h : Hi) (kids : St → St) (s : St) : St :=
  if h.kind = 2 then s
  else if h.kind = 3 ∨ h.kind = 6 then leave s (kids (enter 0 s))
  else if h.kind = 28 then leave s (kids (enter 1 s))
  else if h.kind = 5 then bind h.at_ h.word 3 s
  else if h.kind = 7 then bind h.at_ h.word 4 (kids s)
  else if h.kind = 8 then kids (mention h.at_ h.word true s)
  else if h.kind = 23 then mention h.at_ h.word false s
  else kids s
def nodes : Tr → St → St
  | .nil, s => s
  | .cons h k r, s => nodes r (node h (nodes k) s)
def bind1 (h : Hi) (s : St) : St := if h.kind = 2 then bind h.at_ h.word 1 s else if h.kind = 3 then bind h.at_ h.word 2 s else s
def binds : Nat → Tr → St → St
  | _, .nil, s => s
  | i, .cons h _ r, s => binds (i + 1) r (bind1 h { s with item := (i : Int) })
def items : Nat → Tr → St → St
  | _, .nil, s => s
  | i, .cons h k r, s => items (i + 1) r (node h (nodes k) { s with item := (i : Int) })
def St.none : St := ⟨[], [], [], fun _ => -1, fun _ => Option.none, 0, [], 0⟩
def file (l : Tr) : St := leave .none (items 0 l (binds 0 l (enter 0 .none)))
structure Ok (s : St) : Prop where
  len : s.within.length = s.bs.length
  means : ∀ x, s.means x = -1 ∨ (0 ≤ s.means x ∧ s.means x < s.bs.length)
  here : ∀ x v, s.here x = some v → v = -1 ∨ (0 ≤ v ∧ v < s.bs.length)
  win : ∀ x ∈ s.within, 0 ≤ x ∧ x ≤ 1000000
theorem Ok.none : Ok .none := ⟨rfl, fun _ => .inl rfl, fun _ _ h => (nomatch h), fun _ h => (nomatch h)⟩
structure Goes (s t : St) : Prop where
  ok : Ok t
  bs : ∃ l, t.bs = s.bs ++ l
  item : t.item = s.item
  lam : t.lam = s.lam
theorem Goes.refl {s : St} (h : Ok s) : Goes s s := ⟨h, ⟨[], by simp⟩, rfl, rfl⟩
theorem Goes.trans {s t u : St} (h : Goes s t) (k : Goes t u) : Goes s u := by
  obtain ⟨l, hl⟩ := h.bs
  obtain ⟨m, hm⟩ := k.bs
  exact ⟨k.ok, ⟨l ++ m, by rw [hm, hl, List.append_assoc]⟩, k.item.trans h.item, k.lam.trans h.lam⟩
theorem Goes.len {s t : St} (h : Goes s t) : s.bs.length ≤ t.bs.length := by
  obtain ⟨l, hl⟩ := h.bs
  rw [hl, List.length_append]
  omega
theorem enter_ok (l : Int) {s : St} (h : Ok s) : Ok (enter l s) := ⟨h.len, h.means, fun _ _ e => (nomatch e), h.win⟩
theorem leave_ok {o s : St} (ho : Ok o) (h : Ok s) (hl : o.bs.length ≤ s.bs.length) : Ok (leave o s) := by
  refine ⟨h.len, fun x => ?_, fun x v e => ?_, h.win⟩
  · show (s.here x).getD (s.means x) = -1 ∨ (0 ≤ (s.here x).getD (s.means x) ∧ (s.here x).getD (s.means x) < (s.bs.length : Int))
    cases e : s.here x with
    | none => exact h.means x
    | some v => exact h.here x v e
  · rcases ho.here x v e with h1 | ⟨h1, h2⟩
    · exact .inl h1
    · refine .inr ⟨h1, ?_⟩
      show v < (s.bs.length : Int)
      omega
theorem bind0_same (a : Int) (word : ByteArray) (s : St) : (bind0 a word s).bs = s.bs ∧ (bind0 a word s).ms = s.ms ∧ (bind0 a word s).means = s.means ∧ (bind0 a word s).within = s.within ∧ (bind0 a word s).lam = s.lam ∧ (bind0 a word s).item = s.item := by
  unfold bind0
  split <;> exact ⟨rfl, rfl, rfl, rfl, rfl, rfl⟩
theorem bind_ok (a : Int) (word : ByteArray) (kind : Int) {s : St} (h : Ok s) (hL : 0 ≤ s.lam ∧ s.lam ≤ 1000000) : Goes s (bind a word kind s) := by
  obtain ⟨_, _, _, _, e5, e6⟩ := bind0_same a word s
  have hh : (bind a word kind s).here = if (s.here word).isSome then s.here else up s.here word (some (s.means word)) := by
    unfold bind bind0
    dsimp only
    split <;> rfl
  have hl : (bind a word kind s).bs.length = s.bs.length + 1 := by unfold bind; simp
  refine ⟨⟨?_, fun x => ?_, fun x v e => ?_, fun x hx => ?_⟩, ⟨_, rfl⟩, e6, e5⟩
  · rw [hl, ← h.len]
    show (s.within ++ [s.lam]).length = _
    simp
  · rw [hl]
    show up s.means word s.bs.length x = -1 ∨ (0 ≤ up s.means word s.bs.length x ∧ up s.means word s.bs.length x < ((s.bs.length + 1 : Nat) : Int))
    unfold up
    split
    · exact .inr ⟨by omega, by omega⟩
    · rcases h.means x with h1 | h1
      · exact .inl h1
      · exact .inr ⟨h1.1, by omega⟩
  · rw [hl]
    rw [hh] at e
    have key : ∀ u, (u = -1 ∨ (0 ≤ u ∧ u < (s.bs.length : Int))) → (u = -1 ∨ (0 ≤ u ∧ u < ((s.bs.length + 1 : Nat) : Int))) := fun u hu => by omega
    split at e
    · exact key v (h.here x v e)
    · unfold up at e
      split at e
      · injection e with e
        rw [← e]
        exact key _ (h.means word)
      · exact key v (h.here x v e)
  · have hx : x ∈ s.within ++ [s.lam] := hx
    rcases List.mem_append.1 hx with hx | hx
    · exact h.win x hx
    · rw [List.mem_singleton.1 hx]; exact hL
theorem men0_same (a : Int) (word : ByteArray) (write : Bool) (s : St) : (men0 a word write s).1.bs = s.bs ∧ (men0 a word write s).1.ms = s.ms ∧ (men0 a word write s).1.means = s.means ∧ (men0 a word write s).1.here = s.here ∧ (men0 a word write s).1.within = s.within ∧ (men0 a word write s).1.lam = s.lam ∧ (men0 a word write s).1.item = s.item := by
  unfold men0
  split
  · exact ⟨rfl, rfl, rfl, rfl, rfl, rfl, rfl⟩
  · split
    · exact ⟨rfl, rfl, rfl, rfl, rfl, rfl, rfl⟩
    · split
      · exact ⟨rfl, rfl, rfl, rfl, rfl, rfl, rfl⟩
      · split <;> exact ⟨rfl, rfl, rfl, rfl, rfl, rfl, rfl⟩
theorem mention_ok (a : Int) (word : ByteArray) (write : Bool) {s : St} (h : Ok s) : Goes s (mention a word write s) := by
  obtain ⟨e1, _, e3, e4, e5, e6, e7⟩ := men0_same a word write s
  refine ⟨⟨?_, fun x => ?_, fun x v e => ?_, fun x hx => h.win x ?_⟩, ⟨[], ?_⟩, e7, e6⟩
  · show (men0 a word write s).1.within.length = (men0 a word write s).1.bs.length
    rw [e5, e1]; exact h.len
  · show (men0 a word write s).1.means x = -1 ∨ (0 ≤ (men0 a word write s).1.means x ∧ (men0 a word write s).1.means x < ((men0 a word write s).1.bs.length : Int))
    rw [e1, e3]; exact h.means x
  · have e : (men0 a word write s).1.here x = some v := e
    show v = -1 ∨ (0 ≤ v ∧ v < ((men0 a word write s).1.bs.length : Int))
    rw [e4] at e
    rw [e1]; exact h.here x v e
  · have hx : x ∈ (men0 a word write s).1.within := hx
    rw [e5] at hx; exact hx
  · show (men0 a word write s).1.bs = _
    rw [e1]; simp
theorem through_ok (l : Int) {s t : St} (h : Ok s) (k : Goes (enter l s) t) : Goes s (leave s t) :=
  ⟨leave_ok h k.ok k.len, k.bs, k.item, rfl⟩
theorem node_ok (h : Hi) (kids : St → St) (c : Nat) (hk : ∀ s, Ok s → 0 ≤ s.lam → s.lam + c ≤ 1000000 → Goes s (kids s)) (s : St) (hs : Ok s) (h0 : 0 ≤ s.lam) (h1 : s.lam + (c + 1 : Nat) ≤ 1000000) : Goes s (node h kids s) := by
  unfold node
  split
  · exact .refl hs
  split
  · exact through_ok 0 hs (hk _ (enter_ok 0 hs) (by show 0 ≤ s.lam + 0; omega) (by show s.lam + 0 + c ≤ _; omega))
  split
  · exact through_ok 1 hs (hk _ (enter_ok 1 hs) (by show 0 ≤ s.lam + 1; omega) (by show s.lam + 1 + c ≤ _; omega))
  split
  · exact bind_ok _ _ 3 hs ⟨h0, by omega⟩
  split
  · have g := hk s hs h0 (by omega)
    exact g.trans (bind_ok _ _ 4 g.ok (by rw [g.lam]; exact ⟨h0, by omega⟩))
  split
  · have g := mention_ok h.at_ h.word true hs
    exact g.trans (hk _ g.ok (by rw [g.lam]; exact h0) (by rw [g.lam]; omega))
  split
  · exact mention_ok _ _ false hs
  · exact hk s hs h0 (by omega)
theorem nodes_ok : ∀ (t : Tr) (s : St), Ok s → 0 ≤ s.lam → s.lam + t.cnt ≤ 1000000 → Goes s (nodes t s)
  | .nil, s, h, _, _ => by rw [nodes]; exact .refl h
  | .cons h k r, s, hs, h0, h1 => by
    rw [nodes]
    rw [Tr.cnt] at h1
    have g := node_ok h (nodes k) k.cnt (fun s a b c => nodes_ok k s a b c) s hs h0 (by omega)
    exact g.trans (nodes_ok r _ g.ok (by rw [g.lam]; exact h0) (by rw [g.lam]; omega))
end Sc
end Go.Proofs.YthjflofcgdfekaaGreatDoor
