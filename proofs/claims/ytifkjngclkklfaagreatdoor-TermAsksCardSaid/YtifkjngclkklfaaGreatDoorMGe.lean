/- Mathematics of types: what they are, when they may be, names in order. -/
import Derived.Test.YtifkjngclkklfaaGreatDoorMGd
import Derived.Laws.Strings
namespace Go.Proofs.YtifkjngclkklfaaGreatDoor
namespace Tm
/-- The order of texts, byte by byte. -/
def lt (a b : ByteArray) : Bool := Op.bytesLess a.toList b.toList
theorem less_eq : ∀ x y : List UInt8, Op.bytesLess x y = decide (x < y)
  | [], [] => by simp [Op.bytesLess]
  | _ :: _, [] => by simp [Op.bytesLess]
  | [], _ :: _ => by simp [Op.bytesLess]
  | a :: x, b :: y => by
    rw [Op.bytesLess, less_eq x y]
    simp only [List.cons_lt_cons_iff]
    by_cases h1 : a < b <;> by_cases h2 : a = b <;> by_cases h3 : x < y <;> simp [h1, h2, h3]
theorem ba_ext {a b : ByteArray} (h : a.toList = b.toList) : a = b := by
  rw [ByteArray.toList_eq, ByteArray.toList_eq] at h
  cases a; cases b
  simp only at h
  rw [Array.toList_inj] at h
  rw [h]
theorem lt_iff {a b : ByteArray} : lt a b = true ↔ a.toList < b.toList := by rw [lt, less_eq]; simp
theorem lt_irrefl (a : ByteArray) : lt a a = false := by rw [lt, less_eq]; simp
theorem lt_trans {a b c : ByteArray} (h : lt a b = true) (k : lt b c = true) : lt a c = true := by
  rw [lt_iff] at *
  exact List.lt_trans h k
theorem lt_asymm {a b : ByteArray} (h : lt a b = true) : lt b a = false := by
  cases k : lt b a
  · rfl
  · have := lt_trans h k
    rw [lt_irrefl] at this
    cases this
theorem lt_tri {a b : ByteArray} (h : lt a b = false) (k : lt b a = false) : a = b := by
  rw [lt, less_eq] at *
  have h := of_decide_eq_false h
  have k := of_decide_eq_false k
  exact ba_ext (List.le_antisymm k h)
theorem lt_ne {a b : ByteArray} (h : lt a b = true) : a ≠ b := by
  rintro rfl
  rw [lt_irrefl] at h
  cases h
theorem beq_ba {a b : ByteArray} : (a.toList == b.toList) = decide (a = b) := by
  by_cases h : a = b
  · subst h; simp
  · have : a.toList ≠ b.toList := fun e => h (ba_ext e)
    simp [h, this]

/-- A type: its kind, its names, its parts. -/
inductive Ty where
  | mk (kind : Int) (names : List ByteArray) (parts : List Ty)
def Ty.kind : Ty → Int
  | .mk k _ _ => k
def Ty.names : Ty → List ByteArray
  | .mk _ n _ => n
def Ty.parts : Ty → List Ty
  | .mk _ _ p => p
@[simp] theorem kind_mk (k : Int) (n : List ByteArray) (p : List Ty) : (Ty.mk k n p).kind = k := rfl
@[simp] theorem names_mk (k : Int) (n : List ByteArray) (p : List Ty) : (Ty.mk k n p).names = n := rfl
@[simp] theorem parts_mk (k : Int) (n : List ByteArray) (p : List Ty) : (Ty.mk k n p).parts = p := rfl
theorem Ty.eta : ∀ t : Ty, t = .mk t.kind t.names t.parts
  | .mk _ _ _ => rfl
def dyn : Ty := .mk 0 [] []

mutual
/-- How many stand one in the other. -/
def Ty.depth : Ty → Nat
  | .mk _ _ ps => 1 + depthL ps
def depthL : List Ty → Nat
  | [] => 0
  | t :: ts => max t.depth (depthL ts)
end
theorem depth_mem {t : Ty} : ∀ {l : List Ty}, t ∈ l → t.depth ≤ depthL l
  | a :: l, h => by
    rw [depthL]
    rcases List.mem_cons.1 h with rfl | h
    · omega
    · have := depth_mem h; omega
theorem depth_part {t p : Ty} (h : p ∈ t.parts) : p.depth < t.depth := by
  cases t
  rw [Ty.depth]
  have := depth_mem h
  simp only [Ty.parts] at this
  omega
theorem depthL_le {n : Nat} : ∀ {l : List Ty}, (∀ t ∈ l, t.depth ≤ n) → depthL l ≤ n
  | [], _ => by rw [depthL]; omega
  | a :: l, h => by
    have h1 := h a List.mem_cons_self
    have h2 := depthL_le (l := l) fun t ht => h t (List.mem_cons_of_mem _ ht)
    rw [depthL]; omega
theorem Ty.depth_pos (t : Ty) : 0 < t.depth := by cases t; rw [Ty.depth]; omega
/-- To show of all types: each, if its parts. -/
theorem Ty.ind {C : Ty → Prop} (h : ∀ k ns ps, (∀ p ∈ ps, C p) → C (.mk k ns ps)) : ∀ t, C t := by
  have key : ∀ n (t : Ty), t.depth ≤ n → C t := by
    intro n
    induction n with
    | zero => intro t ht; have := t.depth_pos; omega
    | succ n ih =>
      rintro ⟨k, ns, ps⟩ ht
      refine h k ns ps fun p hp => ih p ?_
      have : p.depth < (Ty.mk k ns ps).depth := depth_part (t := .mk k ns ps) hp
      omega
  exact fun t => key t.depth t (Nat.le_refl _)

mutual
/-- Is all the same? -/
def Ty.same : Ty → Ty → Bool
  | .mk k ns ps, .mk k' ns' ps' => decide (k = k') && decide (ns = ns') && sameL ps ps'
def sameL : List Ty → List Ty → Bool
  | [], [] => true
  | a :: l, b :: m => a.same b && sameL l m
  | _, _ => false
end
mutual
theorem Ty.same_iff : ∀ a b : Ty, a.same b = true ↔ a = b
  | .mk k ns ps, .mk k' ns' ps' => by
    rw [Ty.same, Ty.mk.injEq, Bool.and_eq_true, Bool.and_eq_true, decide_eq_true_iff, decide_eq_true_iff, sameL_iff ps ps', and_assoc]
theorem sameL_iff : ∀ a b : List Ty, sameL a b = true ↔ a = b
  | [], [] => by simp [sameL]
  | [], _ :: _ => by simp [sameL]
  | _ :: _, [] => by simp [sameL]
  | a :: l, b :: m => by rw [sameL, Bool.and_eq_true, Ty.same_iff a b, sameL_iff l m, List.cons.injEq]
end
instance : DecidableEq Ty := fun a b => decidable_of_iff _ (Ty.same_iff a b)
theorem same_eq (a b : Ty) : a.same b = decide (a = b) := by
  rw [Bool.eq_iff_iff, Ty.same_iff, decide_eq_true_iff]
theorem same_refl (a : Ty) : a.same a = true := (Ty.same_iff a a).2 rfl
theorem sameL_len : ∀ {a b : List Ty}, sameL a b = true → a.length = b.length := fun h => congrArg _ ((sameL_iff _ _).1 h)

/-- Do names rise? -/
def riseB : List ByteArray → Bool
  | a :: b :: l => lt a b && riseB (b :: l)
  | _ => true
def nmB (s : ByteArray) : Bool := nameL s.data.toList
/-- Names and parts as the kind has them, whatever these are. -/
def ownB (k : Int) (ns : List ByteArray) (n : Nat) : Bool :=
  if k = 0 ∨ k = 1 ∨ k = 2 then decide (ns = []) && decide (n = 0)
  else if k = 3 then decide (ns.length = n) && (ns.all nmB && riseB ns)
  else if k = 4 then decide (ns = []) && decide (0 < n)
  else false
mutual
/-- May a type be? -/
def Ty.right : Ty → Bool
  | .mk k ns ps => ownB k ns ps.length && rightL ps
def rightL : List Ty → Bool
  | [] => true
  | t :: ts => t.right && rightL ts
end
mutual
/-- Is no part dyn? -/
def Ty.static : Ty → Bool
  | .mk k _ ps => decide (k ≠ 0) && staticL ps
def staticL : List Ty → Bool
  | [] => true
  | t :: ts => t.static && staticL ts
end
theorem rightL_all : ∀ l : List Ty, rightL l = l.all Ty.right
  | [] => rfl
  | t :: ts => by rw [rightL, List.all_cons, rightL_all ts]
theorem staticL_all : ∀ l : List Ty, staticL l = l.all Ty.static
  | [] => rfl
  | t :: ts => by rw [staticL, List.all_cons, staticL_all ts]
theorem right_part {t p : Ty} (h : t.right = true) (hp : p ∈ t.parts) : p.right = true := by
  cases t
  rw [Ty.right, rightL_all, Bool.and_eq_true, List.all_eq_true] at h
  exact h.2 p hp
theorem static_part {t p : Ty} (h : t.static = true) (hp : p ∈ t.parts) : p.static = true := by
  cases t
  rw [Ty.static, staticL_all, Bool.and_eq_true, List.all_eq_true] at h
  exact h.2 p hp
/-- What is known of types that may be. -/
theorem right_cases {k : Int} {ns : List ByteArray} {ps : List Ty} (h : (Ty.mk k ns ps).right = true) :
    ((k = 0 ∨ k = 1 ∨ k = 2) ∧ ns = [] ∧ ps = []) ∨ (k = 3 ∧ ns.length = ps.length ∧ ns.all nmB = true ∧ riseB ns = true) ∨ (k = 4 ∧ ns = [] ∧ 0 < ps.length) := by
  rw [Ty.right, Bool.and_eq_true] at h
  have h := h.1
  unfold ownB at h
  split at h
  · simp at h; exact .inl ⟨by assumption, h.1, h.2⟩
  · split at h
    · simp at h; refine .inr (.inl ⟨by assumption, h.1, by simpa using h.2.1, h.2.2⟩)
    · split at h
      · simp at h; exact .inr (.inr ⟨by assumption, h.1, by simpa using h.2⟩)
      · cases h

/-- The part of a name, the first one. -/
def lk : List ByteArray → List Ty → ByteArray → Option Ty
  | n :: ns, p :: ps, x => if n = x then some p else lk ns ps x
  | _, _, _ => none
/-- What Field answers. -/
def Ty.field (t : Ty) (x : ByteArray) : Option Ty := if t.kind = 3 then lk t.names t.parts x else none
theorem lk_mem : ∀ {ns : List ByteArray} {ps : List Ty} {x : ByteArray} {p : Ty}, lk ns ps x = some p → p ∈ ps ∧ x ∈ ns
  | n :: ns, q :: ps, x, p, h => by
    rw [lk] at h
    split at h
    · injection h with h; subst h; rename_i e; exact ⟨List.mem_cons_self, by rw [e]; exact List.mem_cons_self⟩
    · have := lk_mem h
      exact ⟨List.mem_cons_of_mem _ this.1, List.mem_cons_of_mem _ this.2⟩
  | [], _, _, _, h => by simp [lk] at h
  | _ :: _, [], _, _, h => by simp [lk] at h
theorem lk_none : ∀ {ns : List ByteArray} {ps : List Ty} {x : ByteArray}, x ∉ ns → lk ns ps x = none
  | n :: ns, q :: ps, x, h => by
    rw [lk, if_neg (fun e => h (by rw [e]; exact List.mem_cons_self))]
    exact lk_none fun hx => h (List.mem_cons_of_mem _ hx)
  | [], _, _, _ => by simp [lk]
  | _ :: _, [], _, _ => by simp [lk]
theorem lk_some : ∀ {ns : List ByteArray} {ps : List Ty} {x : ByteArray}, ns.length = ps.length → x ∈ ns → ∃ p, lk ns ps x = some p
  | n :: ns, q :: ps, x, hl, h => by
    rw [lk]
    split
    · exact ⟨_, rfl⟩
    · rename_i hne
      rcases List.mem_cons.1 h with e | h
      · exact absurd e.symm hne
      · exact lk_some (by simpa using hl) h
  | [], _, _, _, h => by cases h
  | _ :: _, [], _, hl, _ => by simp at hl
/-- The names of rising ones are below those behind. -/
theorem rise_lt : ∀ {n : ByteArray} {ns : List ByteArray}, riseB (n :: ns) = true → ∀ x ∈ ns, lt n x = true
  | n, m :: ns, h, x, hx => by
    rw [riseB, Bool.and_eq_true] at h
    rcases List.mem_cons.1 hx with rfl | hx
    · exact h.1
    · exact lt_trans h.1 (rise_lt h.2 x hx)
theorem rise_tail {n : ByteArray} {ns : List ByteArray} (h : riseB (n :: ns) = true) : riseB ns = true := by
  cases ns with
  | nil => rfl
  | cons m ns => rw [riseB, Bool.and_eq_true] at h; exact h.2
theorem rise_nodup : ∀ {ns : List ByteArray}, riseB ns = true → ns.Nodup
  | [], _ => List.nodup_nil
  | n :: _ns, h => List.nodup_cons.2 ⟨fun hm => lt_ne (rise_lt h n hm) rfl, rise_nodup (rise_tail h)⟩
/-- Where names rise the order of places is that of names. -/
theorem rise_get {ns : List ByteArray} (h : riseB ns = true) {i j : Nat} (hij : i < j) (hj : j < ns.length) : lt (ns[i]'(by omega)) ns[j] = true := by
  induction ns generalizing i j with
  | nil => simp at hj
  | cons n ns ih =>
    cases j with
    | zero => omega
    | succ j =>
      cases i with
      | zero => exact rise_lt h _ (List.getElem_mem _)
      | succ i => exact ih (rise_tail h) (by omega) (by simpa using hj)
theorem lk_at {ns : List ByteArray} {ps : List Ty} (h : ns.Nodup) {i : Nat} (hi : i < ns.length) (hp : i < ps.length) : lk ns ps ns[i] = some ps[i] := by
  induction ns generalizing ps i with
  | nil => simp at hi
  | cons n ns ih =>
    cases ps with
    | nil => simp at hp
    | cons p ps =>
      cases i with
      | zero => simp [lk]
      | succ i =>
        have h := List.nodup_cons.1 h
        have hne : ¬ n = (n :: ns)[i + 1] := fun e => h.1 (by rw [e]; exact List.getElem_mem _)
        rw [lk, if_neg hne]
        exact ih h.2 (by simpa using hi) (by simpa using hp)
theorem lk_idx : ∀ {ns : List ByteArray} {ps : List Ty} {x : ByteArray} {p : Ty}, lk ns ps x = some p → ∃ i, ∃ (h1 : i < ns.length) (h2 : i < ps.length), ns[i] = x ∧ ps[i] = p
  | n :: ns, q :: ps, x, p, h => by
    rw [lk] at h
    split at h
    · injection h with h; subst h; rename_i e; exact ⟨0, by simp, by simp, e, rfl⟩
    · obtain ⟨i, h1, h2, e1, e2⟩ := lk_idx h
      exact ⟨i + 1, by simpa using h1, by simpa using h2, e1, e2⟩
  | [], _, _, _, h => by simp [lk] at h
  | _ :: _, [], _, _, h => by simp [lk] at h
end Tm
end Go.Proofs.YtifkjngclkklfaaGreatDoor
/- Mathematics: which types go where. -/
namespace Go.Proofs.YtifkjngclkklfaaGreatDoor
namespace Tm
/-- Names that rise, and are the same ones, are the same list. -/
theorem rise_ext : ∀ {a b : List ByteArray}, riseB a = true → riseB b = true → (∀ x, x ∈ a ↔ x ∈ b) → a = b
  | [], [], _, _, _ => rfl
  | [], y :: b, _, _, h => absurd ((h y).2 List.mem_cons_self) (by simp)
  | x :: a, [], _, _, h => absurd ((h x).1 List.mem_cons_self) (by simp)
  | x :: a, y :: b, ha, hb, h => by
    have hxy : x = y := by
      rcases List.mem_cons.1 ((h x).1 List.mem_cons_self) with e | hx
      · exact e
      · rcases List.mem_cons.1 ((h y).2 List.mem_cons_self) with e | hy
        · exact e.symm
        · have h1 := rise_lt hb x hx
          have h2 := rise_lt ha y hy
          rw [lt_asymm h1] at h2
          cases h2
    subst hxy
    congr 1
    refine rise_ext (rise_tail ha) (rise_tail hb) fun z => ⟨fun hz => ?_, fun hz => ?_⟩
    · rcases List.mem_cons.1 ((h z).1 (List.mem_cons_of_mem _ hz)) with e | h'
      · exact absurd e.symm (lt_ne (rise_lt ha z hz))
      · exact h'
    · rcases List.mem_cons.1 ((h z).2 (List.mem_cons_of_mem _ hz)) with e | h'
      · exact absurd e.symm (lt_ne (rise_lt hb z hz))
      · exact h'
theorem lk_ext : ∀ {ns : List ByteArray} {ps qs : List Ty}, ns.Nodup → ns.length = ps.length → ns.length = qs.length → (∀ x p q, lk ns ps x = some p → lk ns qs x = some q → p = q) → ps = qs := by
  intro ns ps qs hn hp hq h
  refine List.ext_getElem (by omega) fun i h1 h2 => ?_
  exact h ns[i] _ _ (lk_at hn (by omega) h1) (lk_at hn (by omega) h2)

/-- Does each name of the one stand in the other, and go its part? -/
def flRec (f : Ty → Ty → Bool) (ns : List ByteArray) (ps : List Ty) : List ByteArray → List Ty → Bool
  | x :: xs, q :: qs => (match lk ns ps x with | some p => f p q | none => false) && flRec f ns ps xs qs
  | _, _ => true
/-- Parameters go the other way round, answers as they are. -/
def flFn (f : Ty → Ty → Bool) : List Ty → List Ty → Bool
  | [], _ => false
  | _ :: _, [] => false
  | a :: l, b :: m => if l = [] ∨ m = [] then decide (l = []) && decide (m = []) && f a b else f b a && flFn f l m
def flowsF : Nat → Ty → Ty → Bool
  | 0, _, _ => false
  | n + 1, a, b =>
    if a.kind = 0 ∨ b.kind = 0 then true
    else if a.kind ≠ b.kind then false
    else if a.kind = 3 then flRec (flowsF n) a.names a.parts b.names b.parts
    else if a.kind = 4 then flFn (flowsF n) a.parts b.parts
    else decide (a.kind = 1 ∨ a.kind = 2)
/-- Does a type go where another one is wanted? -/
def flows (a b : Ty) : Bool := flowsF (max a.depth b.depth) a b
theorem flRec_iff {f : Ty → Ty → Bool} {ns : List ByteArray} {ps : List Ty} : ∀ {xs : List ByteArray} {qs : List Ty}, xs.length = qs.length →
    (flRec f ns ps xs qs = true ↔ ∀ i (h : i < xs.length) (h' : i < qs.length), ∃ p, lk ns ps xs[i] = some p ∧ f p qs[i] = true)
  | [], [], _ => by simp [flRec]
  | [], _ :: _, h => by simp at h
  | _ :: _, [], h => by simp at h
  | x :: xs, q :: qs, h => by
    rw [flRec, Bool.and_eq_true, flRec_iff (by simpa using h)]
    constructor
    · rintro ⟨h1, h2⟩ i hi hi'
      cases i with
      | zero =>
        cases e : lk ns ps x with
        | none => rw [e] at h1; cases h1
        | some p => rw [e] at h1; exact ⟨p, e, h1⟩
      | succ i => exact h2 i (by simpa using hi) (by simpa using hi')
    · intro H
      refine ⟨?_, fun i hi hi' => H (i + 1) (by simpa using hi) (by simpa using hi')⟩
      obtain ⟨p, e, h1⟩ := H 0 (by simp) (by simp)
      simp only [List.getElem_cons_zero] at e h1
      rw [e]
      exact h1
theorem flRec_congr {f g : Ty → Ty → Bool} {ns : List ByteArray} {ps : List Ty} : ∀ {xs : List ByteArray} {qs : List Ty}, (∀ p q, p ∈ ps → q ∈ qs → f p q = g p q) → flRec f ns ps xs qs = flRec g ns ps xs qs
  | [], _, _ => by simp [flRec]
  | _ :: _, [], _ => by simp [flRec]
  | x :: xs, q :: qs, h => by
    rw [flRec, flRec, flRec_congr fun p q hp hq => h p q hp (List.mem_cons_of_mem _ hq)]
    cases e : lk ns ps x with
    | none => rfl
    | some p => simp only [h p q (lk_mem e).1 List.mem_cons_self]
theorem flFn_congr {f g : Ty → Ty → Bool} : ∀ {l m : List Ty}, (∀ p q, p ∈ l → q ∈ m → f p q = g p q ∧ f q p = g q p) → flFn f l m = flFn g l m
  | [], _, _ => by simp [flFn]
  | _ :: _, [], _ => by simp [flFn]
  | a :: l, b :: m, h => by
    rw [flFn, flFn, flFn_congr fun p q hp hq => h p q (List.mem_cons_of_mem _ hp) (List.mem_cons_of_mem _ hq), (h a b List.mem_cons_self List.mem_cons_self).1, (h a b List.mem_cons_self List.mem_cons_self).2]
theorem flowsF_eq : ∀ (n m : Nat) (a b : Ty), a.depth ≤ n → b.depth ≤ n → a.depth ≤ m → b.depth ≤ m → flowsF n a b = flowsF m a b
  | 0, _, a, _, h, _, _, _ => by have := a.depth_pos; omega
  | _ + 1, 0, a, _, _, _, h, _ => by have := a.depth_pos; omega
  | n + 1, m + 1, a, b, h1, h2, h3, h4 => by
    have key : ∀ p q, p ∈ a.parts → q ∈ b.parts → flowsF n p q = flowsF m p q ∧ flowsF n q p = flowsF m q p := fun p q hp hq => by
      have := depth_part hp
      have := depth_part hq
      exact ⟨flowsF_eq n m p q (by omega) (by omega) (by omega) (by omega), flowsF_eq n m q p (by omega) (by omega) (by omega) (by omega)⟩
    rw [flowsF, flowsF, flRec_congr fun p q hp hq => (key p q hp hq).1, flFn_congr key]
theorem flowsF_flows {n : Nat} {a b : Ty} (h : a.depth ≤ n) (k : b.depth ≤ n) : flowsF n a b = flows a b := flowsF_eq _ _ _ _ h k (by omega) (by omega)
/-- What Flows is, by its parts. -/
theorem flows_eq (a b : Ty) : flows a b =
    if a.kind = 0 ∨ b.kind = 0 then true
    else if a.kind ≠ b.kind then false
    else if a.kind = 3 then flRec flows a.names a.parts b.names b.parts
    else if a.kind = 4 then flFn flows a.parts b.parts
    else decide (a.kind = 1 ∨ a.kind = 2) := by
  have := a.depth_pos
  obtain ⟨n, hn⟩ : ∃ n, max a.depth b.depth = n + 1 := ⟨max a.depth b.depth - 1, by omega⟩
  have key : ∀ p q, p ∈ a.parts → q ∈ b.parts → flowsF n p q = flows p q ∧ flowsF n q p = flows q p := fun p q hp hq => by
    have := depth_part hp
    have := depth_part hq
    exact ⟨flowsF_flows (by omega) (by omega), flowsF_flows (by omega) (by omega)⟩
  rw [flows, hn, flowsF, flRec_congr fun p q hp hq => (key p q hp hq).1, flFn_congr key]
theorem flFn_iff {f : Ty → Ty → Bool} : ∀ {l m : List Ty}, 0 < l.length → (flFn f l m = true ↔ ∃ h : l.length = m.length, ∀ i (hi : i < l.length), (i + 1 = l.length → f l[i] (m[i]'(by omega)) = true) ∧ (i + 1 < l.length → f (m[i]'(by omega)) l[i] = true))
  | [], _, h => by simp at h
  | _ :: _, [], _ => by simp [flFn]
  | [a], [b], _ => by
    simp [flFn]
  | [a], b :: c :: m, _ => by simp [flFn]
  | a :: c :: l, [b], _ => by simp [flFn]
  | a :: c :: l, b :: d :: m, _ => by
    rw [flFn, if_neg (by simp), Bool.and_eq_true, flFn_iff (l := c :: l) (m := d :: m) (by simp)]
    constructor
    · rintro ⟨h1, h2, h3⟩
      refine ⟨by simpa using h2, fun i hi => ?_⟩
      cases i with
      | zero => exact ⟨fun h => by simp at h, fun _ => h1⟩
      | succ i =>
        obtain ⟨k1, k2⟩ := h3 i (by simpa using hi)
        exact ⟨fun h => k1 (by simpa using h), fun h => k2 (by simpa using h)⟩
    · rintro ⟨h2, h3⟩
      refine ⟨(h3 0 (by simp)).2 (by simp), by simpa using h2, fun i hi => ?_⟩
      obtain ⟨k1, k2⟩ := h3 (i + 1) (by simpa using hi)
      exact ⟨fun h => k1 (by simpa using h), fun h => k2 (by simpa using h)⟩

theorem flows_dyn (a : Ty) : flows a dyn = true := by rw [flows_eq, if_pos (.inr rfl)]
theorem dyn_flows (a : Ty) : flows dyn a = true := by rw [flows_eq, if_pos (.inl rfl)]
theorem flows_rec {a b : Ty} (h : a.kind = 3) (k : b.kind = 3) : flows a b = flRec flows a.names a.parts b.names b.parts := by
  rw [flows_eq, if_neg (show ¬ (a.kind = 0 ∨ b.kind = 0) by omega), if_neg (show ¬ a.kind ≠ b.kind by omega), if_pos h]
theorem flows_fn {a b : Ty} (h : a.kind = 4) (k : b.kind = 4) : flows a b = flFn flows a.parts b.parts := by
  rw [flows_eq, if_neg (show ¬ (a.kind = 0 ∨ b.kind = 0) by omega), if_neg (show ¬ a.kind ≠ b.kind by omega), if_neg (show ¬ a.kind = 3 by omega), if_pos h]
theorem right_rec {a : Ty} (h : a.right = true) (k : a.kind = 3) : a.names.length = a.parts.length ∧ a.names.all nmB = true ∧ riseB a.names = true := by
  obtain ⟨ka, na, pa⟩ := a
  rcases right_cases h with ⟨hk, _⟩ | ⟨_, h⟩ | ⟨hk, _⟩
  · simp [Ty.kind] at k; omega
  · exact h
  · simp [Ty.kind] at k; omega
theorem right_fn {a : Ty} (h : a.right = true) (k : a.kind = 4) : a.names = [] ∧ 0 < a.parts.length := by
  obtain ⟨ka, na, pa⟩ := a
  rcases right_cases h with ⟨hk, _⟩ | ⟨hk, _⟩ | ⟨_, h⟩
  · simp [Ty.kind] at k; omega
  · simp [Ty.kind] at k; omega
  · exact h
theorem right_plain {a : Ty} (h : a.right = true) (k : a.kind ≠ 3) (k' : a.kind ≠ 4) : (a.kind = 0 ∨ a.kind = 1 ∨ a.kind = 2) ∧ a.names = [] ∧ a.parts = [] := by
  obtain ⟨ka, na, pa⟩ := a
  rcases right_cases h with h | ⟨hk, _⟩ | ⟨hk, _⟩
  · exact h
  · exact absurd hk k
  · exact absurd hk k'
theorem Ty.ext {a b : Ty} (h : a.kind = b.kind) (h1 : a.names = b.names) (h2 : a.parts = b.parts) : a = b := by
  cases a; cases b; simp only [Ty.kind, Ty.names, Ty.parts] at *; rw [h, h1, h2]
theorem flows_refl : ∀ a : Ty, a.right = true → flows a a = true := by
  refine Ty.ind fun k ns ps ih hr => ?_
  have hp : ∀ p ∈ ps, flows p p = true := fun p h => ih p h (right_part hr h)
  rcases right_cases hr with ⟨hk, _, _⟩ | ⟨rfl, hl, _, hn⟩ | ⟨rfl, _, hl⟩
  · rw [flows_eq]
    rcases hk with rfl | rfl | rfl <;> rfl
  · rw [flows_rec rfl rfl]
    exact (flRec_iff hl).2 fun i h h' => ⟨ps[i], lk_at (rise_nodup hn) h h', hp _ (List.getElem_mem h')⟩
  · rw [flows_fn rfl rfl]
    exact (flFn_iff hl).2 ⟨rfl, fun i hi => ⟨fun _ => hp _ (List.getElem_mem _), fun _ => hp _ (List.getElem_mem _)⟩⟩
theorem static_kind {a : Ty} (h : a.static = true) : a.kind ≠ 0 := by
  cases a
  rw [Ty.static, Bool.and_eq_true] at h
  simpa [Ty.kind] using h.1
/-- What flows, among types without dyn. -/
theorem flows_static {a b : Ty} (ha : a.right = true) (hb : b.right = true) (sa : a.static = true) (sb : b.static = true) (h : flows a b = true) :
    (a = b ∧ a.kind ≠ 3 ∧ a.kind ≠ 4) ∨ (a.kind = 3 ∧ b.kind = 3 ∧ flRec flows a.names a.parts b.names b.parts = true) ∨ (a.kind = 4 ∧ b.kind = 4 ∧ flFn flows a.parts b.parts = true) := by
  have na := static_kind sa
  have nb := static_kind sb
  have e : a.kind = b.kind := by
    rw [flows_eq, if_neg (show ¬ (a.kind = 0 ∨ b.kind = 0) by omega)] at h
    split at h
    · cases h
    · omega
  by_cases k3 : a.kind = 3
  · rw [flows_rec k3 (by omega)] at h
    exact .inr (.inl ⟨k3, by omega, h⟩)
  · by_cases k4 : a.kind = 4
    · rw [flows_fn k4 (by omega)] at h
      exact .inr (.inr ⟨k4, by omega, h⟩)
    · obtain ⟨_, n1, p1⟩ := right_plain ha k3 k4
      obtain ⟨_, n2, p2⟩ := right_plain hb (by omega) (by omega)
      exact .inl ⟨Ty.ext e (by rw [n1, n2]) (by rw [p1, p2]), k3, k4⟩
theorem flows_trans : ∀ (n : Nat) (a b c : Ty), a.depth ≤ n → b.depth ≤ n → c.depth ≤ n → a.right = true → b.right = true → c.right = true → a.static = true → b.static = true → c.static = true → flows a b = true → flows b c = true → flows a c = true := by
  intro n
  induction n with
  | zero => intro a _ _ h; have := a.depth_pos; omega
  | succ n ih =>
    intro a b c da db dc ra rb rc sa sb sc h1 h2
    rcases flows_static ra rb sa sb h1 with ⟨rfl, _⟩ | ⟨ka, kb, f1⟩ | ⟨ka, kb, f1⟩
    · exact h2
    · rcases flows_static rb rc sb sc h2 with ⟨rfl, _⟩ | ⟨_, kc, f2⟩ | ⟨k, _, _⟩
      · exact h1
      · rw [flows_rec ka kc]
        have lb := (right_rec rb kb).1
        have lc := (right_rec rc kc).1
        rw [flRec_iff lb] at f1
        rw [flRec_iff lc] at f2
        refine (flRec_iff lc).2 fun i hi hi' => ?_
        obtain ⟨q, e2, g2⟩ := f2 i hi hi'
        obtain ⟨j, j1, j2, e3, e4⟩ := lk_idx e2
        obtain ⟨p, e1, g1⟩ := f1 j j1 j2
        rw [e3] at e1
        rw [e4] at g1
        have mp := (lk_mem e1).1
        have mq := (lk_mem e2).1
        have mr := List.getElem_mem hi'
        have := depth_part mp
        have := depth_part mq
        have := depth_part mr
        exact ⟨p, e1, ih p q _ (by omega) (by omega) (by omega) (right_part ra mp) (right_part rb mq) (right_part rc mr) (static_part sa mp) (static_part sb mq) (static_part sc mr) g1 g2⟩
      · omega
    · rcases flows_static rb rc sb sc h2 with ⟨rfl, _⟩ | ⟨k, _, _⟩ | ⟨_, kc, f2⟩
      · exact h1
      · omega
      · rw [flows_fn ka kc]
        have la := (right_fn ra ka).2
        have lb := (right_fn rb kb).2
        rw [flFn_iff la] at f1
        rw [flFn_iff lb] at f2
        obtain ⟨e1, g1⟩ := f1
        obtain ⟨e2, g2⟩ := f2
        refine (flFn_iff la).2 ⟨by omega, fun i hi => ?_⟩
        obtain ⟨u1, u2⟩ := g1 i hi
        obtain ⟨v1, v2⟩ := g2 i (by omega)
        have mp : a.parts[i] ∈ a.parts := List.getElem_mem hi
        have mq : b.parts[i]'(by omega) ∈ b.parts := List.getElem_mem _
        have mr : c.parts[i]'(by omega) ∈ c.parts := List.getElem_mem _
        have := depth_part mp
        have := depth_part mq
        have := depth_part mr
        refine ⟨fun h => ?_, fun h => ?_⟩
        · exact ih _ _ _ (by omega) (by omega) (by omega) (right_part ra mp) (right_part rb mq) (right_part rc mr) (static_part sa mp) (static_part sb mq) (static_part sc mr) (u1 h) (v1 (by omega))
        · exact ih _ _ _ (by omega) (by omega) (by omega) (right_part rc mr) (right_part rb mq) (right_part ra mp) (static_part sc mr) (static_part sb mq) (static_part sa mp) (v2 (by omega)) (u2 h)
theorem flows_anti : ∀ (n : Nat) (a b : Ty), a.depth ≤ n → b.depth ≤ n → a.right = true → b.right = true → a.static = true → b.static = true → flows a b = true → flows b a = true → a = b := by
  intro n
  induction n with
  | zero => intro a _ h; have := a.depth_pos; omega
  | succ n ih =>
    intro a b da db ra rb sa sb h1 h2
    rcases flows_static ra rb sa sb h1 with ⟨e, _⟩ | ⟨ka, kb, f1⟩ | ⟨ka, kb, f1⟩
    · exact e
    · rw [flows_rec kb ka] at h2
      obtain ⟨la, _, na⟩ := right_rec ra ka
      obtain ⟨lb, _, nb⟩ := right_rec rb kb
      rw [flRec_iff lb] at f1
      rw [flRec_iff la] at h2
      have en : a.names = b.names := by
        refine rise_ext na nb fun x => ⟨fun hx => ?_, fun hx => ?_⟩
        · obtain ⟨i, hi, rfl⟩ := List.getElem_of_mem hx
          obtain ⟨p, e, _⟩ := h2 i hi (by omega)
          exact (lk_mem e).2
        · obtain ⟨i, hi, rfl⟩ := List.getElem_of_mem hx
          obtain ⟨p, e, _⟩ := f1 i hi (by omega)
          exact (lk_mem e).2
      refine Ty.ext (by omega) en (List.ext_getElem (by rw [← la, ← lb, en]) fun i i1 i2 => ?_)
      obtain ⟨p, e1, g1⟩ := f1 i (by omega) i2
      obtain ⟨q, e2, g2⟩ := h2 i (by omega) i1
      have m1 := List.getElem_mem i1
      have m2 := List.getElem_mem i2
      have := depth_part m1
      have := depth_part m2
      have hp : p = a.parts[i] := by
        have := lk_at (ps := a.parts) (rise_nodup na) (i := i) (by omega) i1
        have e3 : b.names[i]'(by omega) = a.names[i]'(by omega) := by simp only [en]
        rw [e3, this] at e1
        injection e1 with e1
        exact e1.symm
      have hq : q = b.parts[i] := by
        have := lk_at (ps := b.parts) (rise_nodup nb) (i := i) (by omega) i2
        have e3 : a.names[i]'(by omega) = b.names[i]'(by omega) := by simp only [en]
        rw [e3, this] at e2
        injection e2 with e2
        exact e2.symm
      subst hp hq
      exact ih _ _ (by omega) (by omega) (right_part ra m1) (right_part rb m2) (static_part sa m1) (static_part sb m2) g1 g2
    · rw [flows_fn kb ka] at h2
      obtain ⟨na, la⟩ := right_fn ra ka
      obtain ⟨nb, lb⟩ := right_fn rb kb
      rw [flFn_iff la] at f1
      rw [flFn_iff lb] at h2
      obtain ⟨e1, g1⟩ := f1
      obtain ⟨e2, g2⟩ := h2
      refine Ty.ext (by omega) (by rw [na, nb]) (List.ext_getElem e1 fun i i1 i2 => ?_)
      have m1 := List.getElem_mem i1
      have m2 := List.getElem_mem i2
      have := depth_part m1
      have := depth_part m2
      obtain ⟨u1, u2⟩ := g1 i i1
      obtain ⟨v1, v2⟩ := g2 i i2
      by_cases hl : i + 1 = a.parts.length
      · exact ih _ _ (by omega) (by omega) (right_part ra m1) (right_part rb m2) (static_part sa m1) (static_part sb m2) (u1 hl) (v1 (by omega))
      · exact ih _ _ (by omega) (by omega) (right_part ra m1) (right_part rb m2) (static_part sa m1) (static_part sb m2) (v2 (by omega)) (u2 (by omega))
end Tm
end Go.Proofs.YtifkjngclkklfaaGreatDoor
/- Mathematics: the document's answer for package parse, function by function. -/
namespace Go.Proofs.YtifkjngclkklfaaGreatDoor
namespace Ps

/-- A node's own fields. -/
structure Hd where
  kind : Nat
  fro : Nat
  til : Nat
  word : ByteArray
  at_ : Nat
/-- Nodes beside one another, each with those below it. -/
inductive Fo where
  | nil
  | cons (h : Hd) (kids rest : Fo)
def Fo.len : Fo → Nat
  | .nil => 0
  | .cons _ _ r => r.len + 1
def Fo.app : Fo → Fo → Fo
  | .nil, g => g
  | .cons h k r, g => .cons h k (r.app g)
theorem Fo.app_nil : ∀ a : Fo, a.app .nil = a
  | .nil => rfl
  | .cons h k r => by rw [Fo.app, Fo.app_nil r]
theorem Fo.app_assoc : ∀ a b c : Fo, (a.app b).app c = a.app (b.app c)
  | .nil, _, _ => rfl
  | .cons h k r, b, c => by rw [Fo.app, Fo.app, Fo.app, Fo.app_assoc r]
theorem Fo.len_app : ∀ a b : Fo, (a.app b).len = a.len + b.len
  | .nil, b => by simp [Fo.app, Fo.len]
  | .cons h k r, b => by rw [Fo.app, Fo.len, Fo.len, Fo.len_app r]; omega
/-- A node alone. -/
def Fo.one (h : Hd) (k : Fo) : Fo := .cons h k .nil
def e0 : ByteArray := ⟨#[]⟩
def Fo.zero : Fo := .one ⟨0, 0, 0, e0, 0⟩ .nil
def Fo.from_ : Fo → Nat
  | .nil => 0
  | .cons h _ _ => h.fro

section
variable (l : List Tok)
/-- Does a key or a sign stand there? -/
def isM (at_ : Nat) (x : List UInt8) : Bool :=
  match l[at_]? with
  | none => false
  | some t => (t.kind == 2 || t.kind == 5) && (t.text.data.toList == x)
def kindAt (at_ : Nat) : Nat := ((l[at_]?).map Tok.kind).getD 0
def textAt (at_ : Nat) : ByteArray := ((l[at_]?).map Tok.text).getD e0
def wantM (b : Int) (at_ : Nat) (x : List UInt8) : Nat × Int := if 0 ≤ b then (at_, b) else if isM l at_ x = true then (at_ + 1, b) else (at_, (at_ : Int))
def wordM (b : Int) (h : Hd) (at_ : Nat) : Hd × Nat × Int := if 0 ≤ b then (h, at_, b) else if kindAt l at_ = 1 then ({ h with word := textAt l at_, at_ := at_ }, at_ + 1, b) else (h, at_, (at_ : Int))

abbrev Res := Option (Fo × Nat × Int)
/-- Behind what has been read. -/
def Res.pre (k : Fo) (r : Res) : Res := r.map fun x => (k.app x.1, x.2)

inductive TT where
  | kind
  | recL (first : Bool)
  | fnL (first : Bool)
def kInt : List UInt8 := [105, 110, 116]
def kStr : List UInt8 := [115, 116, 114]
def kDyn : List UInt8 := [100, 121, 110]
def kFn : List UInt8 := [102, 110]
def kUse : List UInt8 := [117, 115, 101]
def kDef : List UInt8 := [100, 101, 102]
def kIf : List UInt8 := [105, 102]
def kElse : List UInt8 := [101, 108, 115, 101]
def kWhile : List UInt8 := [119, 104, 105, 108, 101]
def kLet : List UInt8 := [108, 101, 116]
def kPrint : List UInt8 := [112, 114, 105, 110, 116]
def kReturn : List UInt8 := [114, 101, 116, 117, 114, 110]
def kInput : List UInt8 := [105, 110, 112, 117, 116]
def sOpen : List UInt8 := [123]
def sShut : List UInt8 := [125]
def sParO : List UInt8 := [40]
def sParS : List UInt8 := [41]
def sCol : List UInt8 := [58]
def sCom : List UInt8 := [44]
def sSem : List UInt8 := [59]
def sDot : List UInt8 := [46]
def sEq : List UInt8 := [61]
def sEqEq : List UInt8 := [61, 61]
def sLess : List UInt8 := [60]
def sPlus : List UInt8 := [43]
def sMinus : List UInt8 := [45]
def sStar : List UInt8 := [42]

/-- Types; at most f steps deep. -/
def tyM : Nat → TT → Int → Nat → Res
  | 0, _, _, _ => none
  | f + 1, .kind, b, at_ =>
    if 0 ≤ b then some (.zero, at_, b)
    else if isM l at_ kInt = true then some (.one ⟨29, at_, at_ + 1, e0, 0⟩ .nil, at_ + 1, b)
    else if isM l at_ kStr = true then some (.one ⟨30, at_, at_ + 1, e0, 0⟩ .nil, at_ + 1, b)
    else if isM l at_ kDyn = true then some (.one ⟨31, at_, at_ + 1, e0, 0⟩ .nil, at_ + 1, b)
    else if isM l at_ sOpen = true then
      (tyM f (.recL true) b (at_ + 1)).bind fun x =>
        let y := wantM l x.2.2 x.2.1 sShut
        some (.one ⟨32, at_, y.1, e0, 0⟩ x.1, y.1, y.2)
    else
      let y1 := wantM l b at_ kFn
      let y2 := wantM l y1.2 y1.1 sParO
      (tyM f (.fnL true) y2.2 y2.1).bind fun x =>
        let y3 := wantM l x.2.2 x.2.1 sParS
        let y4 := wantM l y3.2 y3.1 sCol
        (tyM f .kind y4.2 y4.1).bind fun t =>
          some (.one ⟨34, at_, t.2.1, e0, 0⟩ (x.1.app t.1), t.2.1, t.2.2)
  | f + 1, .recL first, b, at_ =>
    if b < 0 ∧ ¬ (first = true ∧ isM l at_ sShut = true) then
      let x := wordM l b ⟨33, at_, 0, e0, 0⟩ at_
      let y := wantM l x.2.2 x.2.1 sCol
      (tyM f .kind y.2 y.1).bind fun t =>
        let n : Fo := .one { x.1 with til := t.2.1 } t.1
        if 0 ≤ t.2.2 ∨ isM l t.2.1 sShut = true then some (n, t.2.1, t.2.2)
        else
          let y2 := wantM l t.2.2 t.2.1 sCom
          (tyM f (.recL false) y2.2 y2.1).pre n
    else some (.nil, at_, b)
  | f + 1, .fnL first, b, at_ =>
    if b < 0 ∧ ¬ (first = true ∧ isM l at_ sParS = true) then
      (tyM f .kind b at_).bind fun t =>
        if 0 ≤ t.2.2 ∨ isM l t.2.1 sParS = true then some (t.1, t.2.1, t.2.2)
        else
          let y2 := wantM l t.2.2 t.2.1 sCom
          (tyM f (.fnL false) y2.2 y2.1).pre t.1
    else some (.nil, at_, b)

def typedM (f : Nat) (b : Int) (at_ : Nat) : Res := if 0 ≤ b ∨ ¬ isM l at_ sCol = true then some (.zero, at_, b) else tyM l f .kind b (at_ + 1)
def parL : Nat → Bool → Int → Nat → Res
  | 0, _, _, _ => none
  | f + 1, first, b, at_ =>
    if b < 0 ∧ ¬ (first = true ∧ isM l at_ sParS = true) then
      let x := wordM l b ⟨5, at_, 0, e0, 0⟩ at_
      (typedM l f x.2.2 x.2.1).bind fun t =>
        let n : Fo := .one { x.1 with til := t.2.1 } t.1
        if 0 ≤ t.2.2 ∨ isM l t.2.1 sParS = true then some (n, t.2.1, t.2.2)
        else
          let y2 := wantM l t.2.2 t.2.1 sCom
          (parL f false y2.2 y2.1).pre n
    else some (.nil, at_, b)
def paramsM (f : Nat) (b : Int) (at_ : Nat) : Res :=
  let y := wantM l b at_ sParO
  (parL l f true y.2 y.1).bind fun x =>
    let y2 := wantM l x.2.2 x.2.1 sParS
    some (.one ⟨4, at_, y2.1, e0, 0⟩ x.1, y2.1, y2.2)

inductive XT where
  | lambda
  | block
  | stmts
  | stmt
  | expr
  | sum
  | sumL (a : Fo)
  | term
  | termL (a : Fo)
  | post
  | postL (a : Fo)
  | args (first : Bool)
  | atom
  | entries (first : Bool)
/-- All that may hold expressions; at most f steps deep. -/
def exM : Nat → XT → Int → Nat → Res
  | 0, _, _, _ => none
  | f + 1, .lambda, b, at_ =>
    (paramsM l f b at_).bind fun p =>
      (typedM l f p.2.2 p.2.1).bind fun t =>
        (exM f .block t.2.2 t.2.1).bind fun k =>
          some (p.1.app (t.1.app k.1), k.2.1, k.2.2)
  | f + 1, .block, b, at_ =>
    let y := wantM l b at_ sOpen
    (exM f .stmts y.2 y.1).bind fun x =>
      let y2 := wantM l x.2.2 x.2.1 sShut
      some (.one ⟨6, at_, y2.1, e0, 0⟩ x.1, y2.1, y2.2)
  | f + 1, .stmts, b, at_ =>
    if b < 0 ∧ ¬ isM l at_ sShut = true then
      (exM f .stmt b at_).bind fun x => (exM f .stmts x.2.2 x.2.1).pre x.1
    else some (.nil, at_, b)
  | f + 1, .stmt, b, at_ =>
    if isM l at_ kIf = true then
      (exM f .expr b (at_ + 1)).bind fun c =>
        (exM f .block c.2.2 c.2.1).bind fun k =>
          if k.2.2 < 0 ∧ isM l k.2.1 kElse = true then
            (exM f .block k.2.2 (k.2.1 + 1)).bind fun o =>
              some (.one ⟨9, at_, o.2.1, e0, 0⟩ (c.1.app (k.1.app o.1)), o.2.1, o.2.2)
          else some (.one ⟨9, at_, k.2.1, e0, 0⟩ (c.1.app (k.1.app .zero)), k.2.1, k.2.2)
    else if isM l at_ kWhile = true then
      (exM f .expr b (at_ + 1)).bind fun c =>
        (exM f .block c.2.2 c.2.1).bind fun k =>
          some (.one ⟨10, at_, k.2.1, e0, 0⟩ (c.1.app k.1), k.2.1, k.2.2)
    else if isM l at_ kLet = true then
      let x := wordM l b ⟨7, at_, 0, e0, 0⟩ (at_ + 1)
      (typedM l f x.2.2 x.2.1).bind fun t =>
        let y := wantM l t.2.2 t.2.1 sEq
        (exM f .expr y.2 y.1).bind fun v =>
          let y2 := wantM l v.2.2 v.2.1 sSem
          some (.one { x.1 with til := y2.1 } (t.1.app v.1), y2.1, y2.2)
    else
      let x : Hd × Nat × Int :=
        if isM l at_ kPrint = true then (⟨11, at_, 0, e0, 0⟩, at_ + 1, b)
        else if isM l at_ kReturn = true then (⟨12, at_, 0, e0, 0⟩, at_ + 1, b)
        else if kindAt l at_ = 1 ∧ isM l (at_ + 1) sEq = true then (let z := wordM l b ⟨8, at_, 0, e0, 0⟩ at_; (z.1, z.2.1 + 1, z.2.2))
        else (⟨13, at_, 0, e0, 0⟩, at_, b)
      (exM f .expr x.2.2 x.2.1).bind fun v =>
        let y2 := wantM l v.2.2 v.2.1 sSem
        some (.one { x.1 with til := y2.1 } v.1, y2.1, y2.2)
  | f + 1, .expr, b, at_ =>
    (exM f .sum b at_).bind fun a =>
      if 0 ≤ a.2.2 ∨ (¬ isM l a.2.1 sLess = true ∧ ¬ isM l a.2.1 sEqEq = true) then some a
      else (exM f .sum a.2.2 (a.2.1 + 1)).bind fun c =>
        some (.one ⟨if isM l a.2.1 sEqEq = true then 15 else 14, a.1.from_, c.2.1, e0, 0⟩ (a.1.app c.1), c.2.1, c.2.2)
  | f + 1, .sum, b, at_ => (exM f .term b at_).bind fun a => exM f (.sumL a.1) a.2.2 a.2.1
  | f + 1, .sumL a, b, at_ =>
    if b < 0 ∧ (isM l at_ sPlus = true ∨ isM l at_ sMinus = true) then
      (exM f .term b (at_ + 1)).bind fun c =>
        exM f (.sumL (.one ⟨if isM l at_ sMinus = true then 17 else 16, a.from_, c.2.1, e0, 0⟩ (a.app c.1))) c.2.2 c.2.1
    else some (a, at_, b)
  | f + 1, .term, b, at_ => (exM f .post b at_).bind fun a => exM f (.termL a.1) a.2.2 a.2.1
  | f + 1, .termL a, b, at_ =>
    if b < 0 ∧ isM l at_ sStar = true then
      (exM f .post b (at_ + 1)).bind fun c =>
        exM f (.termL (.one ⟨18, a.from_, c.2.1, e0, 0⟩ (a.app c.1))) c.2.2 c.2.1
    else some (a, at_, b)
  | f + 1, .post, b, at_ => (exM f .atom b at_).bind fun a => exM f (.postL a.1) a.2.2 a.2.1
  | f + 1, .postL a, b, at_ =>
    if b < 0 ∧ (isM l at_ sDot = true ∨ isM l at_ sParO = true) then
      if isM l at_ sDot = true then
        let x := wordM l b ⟨19, a.from_, 0, e0, 0⟩ (at_ + 1)
        exM f (.postL (.one { x.1 with til := x.2.1 } a)) x.2.2 x.2.1
      else
        (exM f (.args true) b (at_ + 1)).bind fun k =>
          let y := wantM l k.2.2 k.2.1 sParS
          exM f (.postL (.one ⟨20, a.from_, y.1, e0, 0⟩ (a.app k.1))) y.2 y.1
    else some (a, at_, b)
  | f + 1, .args first, b, at_ =>
    if b < 0 ∧ ¬ (first = true ∧ isM l at_ sParS = true) then
      (exM f .expr b at_).bind fun t =>
        if 0 ≤ t.2.2 ∨ isM l t.2.1 sParS = true then some (t.1, t.2.1, t.2.2)
        else
          let y2 := wantM l t.2.2 t.2.1 sCom
          (exM f (.args false) y2.2 y2.1).pre t.1
    else some (.nil, at_, b)
  | f + 1, .atom, b, at_ =>
    if 0 ≤ b then some (.zero, at_, b)
    else if kindAt l at_ = 3 then some (.one ⟨21, at_, at_ + 1, textAt l at_, at_⟩ .nil, at_ + 1, b)
    else if kindAt l at_ = 4 then some (.one ⟨22, at_, at_ + 1, textAt l at_, at_⟩ .nil, at_ + 1, b)
    else if kindAt l at_ = 1 then some (.one ⟨23, at_, at_ + 1, textAt l at_, at_⟩ .nil, at_ + 1, b)
    else if isM l at_ kInput = true then some (.one ⟨24, at_, at_ + 1, e0, 0⟩ .nil, at_ + 1, b)
    else if isM l at_ sParO = true then
      (exM f .expr b (at_ + 1)).bind fun x =>
        let y := wantM l x.2.2 x.2.1 sParS
        some (.one ⟨25, at_, y.1, e0, 0⟩ x.1, y.1, y.2)
    else if isM l at_ sOpen = true then
      (exM f (.entries true) b (at_ + 1)).bind fun x =>
        let y := wantM l x.2.2 x.2.1 sShut
        some (.one ⟨26, at_, y.1, e0, 0⟩ x.1, y.1, y.2)
    else
      let y := wantM l b at_ kFn
      (exM f .lambda y.2 y.1).bind fun k =>
        some (.one ⟨28, at_, k.2.1, e0, 0⟩ k.1, k.2.1, k.2.2)
  | f + 1, .entries first, b, at_ =>
    if b < 0 ∧ ¬ (first = true ∧ isM l at_ sShut = true) then
      let x := wordM l b ⟨27, at_, 0, e0, 0⟩ at_
      let y := wantM l x.2.2 x.2.1 sCol
      (exM f .expr y.2 y.1).bind fun t =>
        let n : Fo := .one { x.1 with til := t.2.1 } t.1
        if 0 ≤ t.2.2 ∨ isM l t.2.1 sShut = true then some (n, t.2.1, t.2.2)
        else
          let y2 := wantM l t.2.2 t.2.1 sCom
          (exM f (.entries false) y2.2 y2.1).pre n
    else some (.nil, at_, b)

def useM (b : Int) (at_ : Nat) : Fo × Nat × Int :=
  let x := wordM l b ⟨23, at_ + 1, 0, e0, 0⟩ (at_ + 1)
  let y := wantM l x.2.2 x.2.1 sDot
  let z := wordM l y.2 ⟨2, at_, 0, e0, 0⟩ y.1
  let y2 := wantM l z.2.2 z.2.1 sSem
  (.one { z.1 with til := y2.1 } (.one { x.1 with til := x.2.1 } .nil), y2.1, y2.2)
def defM (f : Nat) (b : Int) (at_ : Nat) : Res :=
  let y := wantM l b at_ kDef
  let x := wordM l y.2 ⟨3, at_, 0, e0, 0⟩ y.1
  (exM l f .lambda x.2.2 x.2.1).bind fun k =>
    some (.one { x.1 with til := k.2.1 } k.1, k.2.1, k.2.2)
def itemsM : Nat → Int → Nat → Res
  | 0, _, _ => none
  | f + 1, b, at_ =>
    if b < 0 ∧ kindAt l at_ ≠ 0 then
      if isM l at_ kUse = true then (itemsM f (useM l b at_).2.2 (useM l b at_).2.1).pre (useM l b at_).1
      else (defM l f b at_).bind fun x => (itemsM f x.2.2 x.2.1).pre x.1
    else some (.nil, at_, b)
def fileM (f : Nat) : Res := (itemsM l f (-1) 0).bind fun x => some (.one ⟨1, 0, x.2.1, e0, 0⟩ x.1, x.2.1, x.2.2)
end
end Ps
end Go.Proofs.YtifkjngclkklfaaGreatDoor
