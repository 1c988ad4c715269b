/- Mathematics of values: what they are, when they may be. -/
import Derived.Test.YtbjlhdjcdinmhaaDoorQA
namespace Go.Proofs.YtbjlhdjcdinmhaaDoor
namespace Vm
/-- A value: its kind, number, text, its names, its parts. -/
structure VH where
  kind : Int
  n : Int
  s : ByteArray
deriving DecidableEq
inductive Vl where
  | mk (hd : VH) (names : List ByteArray) (parts : List Vl)
def Vl.hd : Vl → VH
  | .mk k _ _ => k
def Vl.names : Vl → List ByteArray
  | .mk _ n _ => n
def Vl.parts : Vl → List Vl
  | .mk _ _ p => p
@[simp] theorem hd_mk (k : VH) (n : List ByteArray) (p : List Vl) : (Vl.mk k n p).hd = k := rfl
@[simp] theorem names_mk (k : VH) (n : List ByteArray) (p : List Vl) : (Vl.mk k n p).names = n := rfl
@[simp] theorem parts_mk (k : VH) (n : List ByteArray) (p : List Vl) : (Vl.mk k n p).parts = p := rfl
theorem Vl.eta : ∀ t : Vl, t = .mk t.hd t.names t.parts
  | .mk _ _ _ => rfl
/-- Nothing. -/
def zero : Vl := .mk ⟨0, 0, ⟨#[]⟩⟩ [] []

mutual
/-- How many stand one in the other. -/
def Vl.depth : Vl → Nat
  | .mk _ _ ps => 1 + depthL ps
def depthL : List Vl → Nat
  | [] => 0
  | t :: ts => max t.depth (depthL ts)
end
theorem depth_mem {t : Vl} : ∀ {l : List Vl}, t ∈ l → t.depth ≤ depthL l
  | a :: l, h => by
    rw [depthL]
    rcases List.mem_cons.1 h with rfl | h
    · omega
    · have := depth_mem h; omega
theorem depth_part {t p : Vl} (h : p ∈ t.parts) : p.depth < t.depth := by
  cases t
  rw [Vl.depth]
  have := depth_mem h
  simp only [Vl.parts] at this
  omega
theorem depthL_le {n : Nat} : ∀ {l : List Vl}, (∀ t ∈ l, t.depth ≤ n) → depthL l ≤ n
  | [], _ => by rw [depthL]; omega
  | a :: l, h => by
    have h1 := h a List.mem_cons_self
    have h2 := depthL_le (l := l) fun t ht => h t (List.mem_cons_of_mem _ ht)
    rw [depthL]; omega
theorem Vl.depth_pos (t : Vl) : 0 < t.depth := by cases t; rw [Vl.depth]; omega
/-- To show of all types: each, if its parts. -/
theorem Vl.ind {C : Vl → Prop} (h : ∀ k ns ps, (∀ p ∈ ps, C p) → C (.mk k ns ps)) : ∀ t, C t := by
  have key : ∀ n (t : Vl), t.depth ≤ n → C t := by
    intro n
    induction n with
    | zero => intro t ht; have := t.depth_pos; omega
    | succ n ih =>
      rintro ⟨k, ns, ps⟩ ht
      refine h k ns ps fun p hp => ih p ?_
      have : p.depth < (Vl.mk k ns ps).depth := depth_part (t := .mk k ns ps) hp
      omega
  exact fun t => key t.depth t (Nat.le_refl _)

mutual
/-- Is all the same? -/
def Vl.same : Vl → Vl → Bool
  | .mk k ns ps, .mk k' ns' ps' => decide (k = k') && decide (ns = ns') && sameL ps ps'
def sameL : List Vl → List Vl → Bool
  | [], [] => true
  | a :: l, b :: m => a.same b && sameL l m
  | _, _ => false
end
mutual
theorem Vl.same_iff : ∀ a b : Vl, a.same b = true ↔ a = b
  | .mk k ns ps, .mk k' ns' ps' => by
    rw [Vl.same, Vl.mk.injEq, Bool.and_eq_true, Bool.and_eq_true, decide_eq_true_iff, decide_eq_true_iff, sameL_iff ps ps', and_assoc]
theorem sameL_iff : ∀ a b : List Vl, sameL a b = true ↔ a = b
  | [], [] => by simp [sameL]
  | [], _ :: _ => by simp [sameL]
  | _ :: _, [] => by simp [sameL]
  | a :: l, b :: m => by rw [sameL, Bool.and_eq_true, Vl.same_iff a b, sameL_iff l m, List.cons.injEq]
end
instance : DecidableEq Vl := fun a b => decidable_of_iff _ (Vl.same_iff a b)
theorem same_eq (a b : Vl) : a.same b = decide (a = b) := by
  rw [Bool.eq_iff_iff, Vl.same_iff, decide_eq_true_iff]
theorem same_refl (a : Vl) : a.same a = true := (Vl.same_iff a a).2 rfl
theorem sameL_len : ∀ {a b : List Vl}, sameL a b = true → a.length = b.length := fun h => congrArg _ ((sameL_iff _ _).1 h)

/-- Names and parts as the kind has them, whatever these are. -/
def ownB (k : VH) (ns : List ByteArray) (n : Nat) : Bool :=
  if k.kind = 1 then decide (k.s = ⟨#[]⟩) && (decide (ns = []) && decide (n = 0))
  else if k.kind = 2 then decide (k.n = 0) && (decide (ns = []) && decide (n = 0))
  else if k.kind = 4 then decide (0 ≤ k.n) && (decide (k.s = ⟨#[]⟩) && (decide (ns = []) && decide (n = 0)))
  else if k.kind = 3 then decide (k.n = 0) && (decide (k.s = ⟨#[]⟩) && (decide (ns.length = n) && riseB ns))
  else false
mutual
/-- May a value be? -/
def Vl.right : Vl → Bool
  | .mk k ns ps => ownB k ns ps.length && rightL ps
def rightL : List Vl → Bool
  | [] => true
  | t :: ts => t.right && rightL ts
end
theorem rightL_all : ∀ l : List Vl, rightL l = l.all Vl.right
  | [] => rfl
  | t :: ts => by rw [rightL, List.all_cons, rightL_all ts]
theorem right_part {t p : Vl} (h : t.right = true) (hp : p ∈ t.parts) : p.right = true := by
  cases t
  rw [Vl.right, rightL_all, Bool.and_eq_true, List.all_eq_true] at h
  exact h.2 p hp
/-- What is known of values that may be. -/
theorem right_cases {k : VH} {ns : List ByteArray} {ps : List Vl} (h : (Vl.mk k ns ps).right = true) :
    (k.kind = 1 ∧ k.s = ⟨#[]⟩ ∧ ns = [] ∧ ps = []) ∨ (k.kind = 2 ∧ k.n = 0 ∧ ns = [] ∧ ps = []) ∨ (k.kind = 4 ∧ 0 ≤ k.n ∧ k.s = ⟨#[]⟩ ∧ ns = [] ∧ ps = []) ∨ (k.kind = 3 ∧ k.n = 0 ∧ k.s = ⟨#[]⟩ ∧ ns.length = ps.length ∧ riseB ns = true) := by
  rw [Vl.right, Bool.and_eq_true] at h
  have h := h.1
  unfold ownB at h
  split at h
  · simp at h; exact .inl ⟨by assumption, h.1, h.2.1, h.2.2⟩
  · split at h
    · simp at h; exact .inr (.inl ⟨by assumption, h.1, h.2.1, h.2.2⟩)
    · split at h
      · simp at h; exact .inr (.inr (.inl ⟨by assumption, h.1, h.2.1, h.2.2.1, h.2.2.2⟩))
      · split at h
        · simp at h; exact .inr (.inr (.inr ⟨by assumption, h.1, h.2.1, h.2.2.1, h.2.2.2⟩))
        · cases h

/-- The part of a name, the first one. -/
def lk : List ByteArray → List Vl → ByteArray → Option Vl
  | n :: ns, p :: ps, x => if n = x then some p else lk ns ps x
  | _, _, _ => none
/-- What Field answers. -/
def Vl.field (t : Vl) (x : ByteArray) : Option Vl := if t.hd.kind = 3 then lk t.names t.parts x else none
theorem lk_mem : ∀ {ns : List ByteArray} {ps : List Vl} {x : ByteArray} {p : Vl}, lk ns ps x = some p → p ∈ ps ∧ x ∈ ns
  | n :: ns, q :: ps, x, p, h => by
    rw [lk] at h
    split at h
    · injection h with h; subst h; rename_i e; exact ⟨List.mem_cons_self, by rw [e]; exact List.mem_cons_self⟩
    · have := lk_mem h
      exact ⟨List.mem_cons_of_mem _ this.1, List.mem_cons_of_mem _ this.2⟩
  | [], _, _, _, h => by simp [lk] at h
  | _ :: _, [], _, _, h => by simp [lk] at h
theorem lk_none : ∀ {ns : List ByteArray} {ps : List Vl} {x : ByteArray}, x ∉ ns → lk ns ps x = none
  | n :: ns, q :: ps, x, h => by
    rw [lk, if_neg (fun e => h (by rw [e]; exact List.mem_cons_self))]
    exact lk_none fun hx => h (List.mem_cons_of_mem _ hx)
  | [], _, _, _ => by simp [lk]
  | _ :: _, [], _, _ => by simp [lk]
theorem lk_some : ∀ {ns : List ByteArray} {ps : List Vl} {x : ByteArray}, ns.length = ps.length → x ∈ ns → ∃ p, lk ns ps x = some p
  | n :: ns, q :: ps, x, hl, h => by
    rw [lk]
    split
    · exact ⟨_, rfl⟩
    · rename_i hne
      rcases List.mem_cons.1 h with e | h
      · exact absurd e.symm hne
      · exact lk_some (by simpa using hl) h
  | [], _, _, _, h => by cases h
  | _ :: _, [], _, hl, _ => by simp at hl
theorem lk_at {ns : List ByteArray} {ps : List Vl} (h : ns.Nodup) {i : Nat} (hi : i < ns.length) (hp : i < ps.length) : lk ns ps ns[i] = some ps[i] := by
  induction ns generalizing ps i with
  | nil => simp at hi
  | cons n ns ih =>
    cases ps with
    | nil => simp at hp
    | cons p ps =>
      cases i with
      | zero => simp [lk]
      | succ i =>
        have h := List.nodup_cons.1 h
        have hne : ¬ n = (n :: ns)[i + 1] := fun e => h.1 (by rw [e]; exact List.getElem_mem _)
        rw [lk, if_neg hne]
        exact ih h.2 (by simpa using hi) (by simpa using hp)
theorem lk_idx : ∀ {ns : List ByteArray} {ps : List Vl} {x : ByteArray} {p : Vl}, lk ns ps x = some p → ∃ i, ∃ (h1 : i < ns.length) (h2 : i < ps.length), ns[i] = x ∧ ps[i] = p
  | n :: ns, q :: ps, x, p, h => by
    rw [lk] at h
    split at h
    · injection h with h; subst h; rename_i e; exact ⟨0, by simp, by simp, e, rfl⟩
    · obtain ⟨i, h1, h2, e1, e2⟩ := lk_idx h
      exact ⟨i + 1, by simpa using h1, by simpa using h2, e1, e2⟩
  | [], _, _, _, h => by simp [lk] at h
  | _ :: _, [], _, _, h => by simp [lk] at h
end Vm
end Go.Proofs.YtbjlhdjcdinmhaaDoor
