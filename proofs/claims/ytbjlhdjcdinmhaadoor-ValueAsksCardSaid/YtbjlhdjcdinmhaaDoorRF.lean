/- Mathematics of values whose names are turned. -/
import Derived.Test.YtbjlhdjcdinmhaaDoorRE
namespace Go.Proofs.YtbjlhdjcdinmhaaDoor
namespace Vm
/-- A pair put in its place. -/
def ins1 (e : ByteArray × Vl) : List (ByteArray × Vl) → List (ByteArray × Vl)
  | [] => [e]
  | a :: l => if lt a.1 e.1 then a :: ins1 e l else e :: a :: l
def sortP : List (ByteArray × Vl) → List (ByteArray × Vl)
  | [] => []
  | a :: l => ins1 a (sortP l)
theorem ins1_mem {e x : ByteArray × Vl} : ∀ {l : List (ByteArray × Vl)}, x ∈ ins1 e l ↔ x = e ∨ x ∈ l
  | [] => by simp [ins1]
  | a :: l => by
    rw [ins1]
    split
    · rw [List.mem_cons, ins1_mem, List.mem_cons]
      constructor
      · rintro (h | h | h)
        · exact .inr (.inl h)
        · exact .inl h
        · exact .inr (.inr h)
      · rintro (h | h | h)
        · exact .inr (.inl h)
        · exact .inl h
        · exact .inr (.inr h)
    · simp
theorem ins1_rise {e : ByteArray × Vl} : ∀ {l : List (ByteArray × Vl)}, riseB (l.map Prod.fst) = true → e.1 ∉ l.map Prod.fst → riseB ((ins1 e l).map Prod.fst) = true
  | [], _, _ => by simp [ins1, riseB]
  | a :: l, h, k => by
    rw [List.map_cons] at h
    rw [ins1]
    split
    · rename_i hlt
      rw [List.map_cons]
      refine rise_hcons (ins1_rise (rise_tail h) fun hm => k (by rw [List.map_cons]; exact List.mem_cons_of_mem _ hm)) fun y hy => ?_
      obtain ⟨z, hz, rfl⟩ := List.mem_map.1 (List.mem_of_mem_head? hy)
      rcases ins1_mem.1 hz with rfl | hz
      · exact hlt
      · exact rise_lt h _ (List.mem_map_of_mem hz)
    · rename_i hlt
      rw [List.map_cons, List.map_cons]
      refine rise_hcons h fun y hy => ?_
      simp only [List.head?_cons, Option.some.injEq] at hy
      subst hy
      cases hh : lt e.1 a.1 with
      | true => rfl
      | false =>
        exfalso
        have hlt' : lt a.1 e.1 = false := by simpa using hlt
        exact k (by rw [lt_tri hh hlt', List.map_cons]; exact List.mem_cons_self)
theorem sortP_mem {x : ByteArray × Vl} : ∀ {l : List (ByteArray × Vl)}, x ∈ sortP l ↔ x ∈ l
  | [] => by simp [sortP]
  | a :: l => by rw [sortP, ins1_mem, sortP_mem, List.mem_cons]
theorem sortP_rise : ∀ {l : List (ByteArray × Vl)}, (l.map Prod.fst).Nodup → riseB ((sortP l).map Prod.fst) = true
  | [], _ => by simp [sortP, riseB]
  | a :: l, h => by
    rw [List.map_cons, List.nodup_cons] at h
    rw [sortP]
    refine ins1_rise (sortP_rise h.2) fun hm => h.1 ?_
    obtain ⟨z, hz, e⟩ := List.mem_map.1 hm
    rw [← e]
    exact List.mem_map_of_mem (sortP_mem.1 hz)
theorem ins1_cnt {e : ByteArray × Vl} : ∀ {l : List (ByteArray × Vl)}, cntL ((ins1 e l).map Prod.snd) = e.2.cnt + cntL (l.map Prod.snd) ∧ (ins1 e l).length = l.length + 1
  | [] => by simp [ins1, cntL]
  | a :: l => by
    have ih := ins1_cnt (e := e) (l := l)
    rw [ins1]
    split
    · rw [List.map_cons, cntL, ih.1, List.map_cons, cntL, List.length_cons, ih.2]
      exact ⟨by omega, rfl⟩
    · rw [List.map_cons, cntL]
      exact ⟨rfl, rfl⟩
theorem sortP_cnt : ∀ {l : List (ByteArray × Vl)}, cntL ((sortP l).map Prod.snd) = cntL (l.map Prod.snd) ∧ (sortP l).length = l.length
  | [] => by simp [sortP]
  | a :: l => by
    have ih := sortP_cnt (l := l)
    have h := ins1_cnt (e := a) (l := sortP l)
    rw [sortP, h.1, h.2, ih.1, ih.2, List.map_cons, cntL]
    exact ⟨rfl, rfl⟩
theorem zip_self : ∀ l : List (ByteArray × Vl), (l.map Prod.fst).zip (l.map Prod.snd) = l
  | [] => rfl
  | a :: l => by rw [List.map_cons, List.map_cons, List.zip_cons_cons, zip_self l]
/-- The record of some names and parts, if there is one. -/
def recO (ns : List ByteArray) (ps : List Vl) : Option Vl :=
  if ns.length = ps.length ∧ ns.Nodup then some (.mk ⟨3, 0, ⟨#[]⟩⟩ ((sortP (ns.zip ps)).map Prod.fst) ((sortP (ns.zip ps)).map Prod.snd)) else none
theorem recO_made {ns : List ByteArray} {ps : List Vl} (hl : ns.length = ps.length) (hn : ns.Nodup) : IsRec ns ps (.mk ⟨3, 0, ⟨#[]⟩⟩ ((sortP (ns.zip ps)).map Prod.fst) ((sortP (ns.zip ps)).map Prod.snd)) :=
  ⟨rfl, sortP_rise (by rw [zip_fst hl]; exact hn), by simp, fun x p => by
    simp only [names_mk, parts_mk]
    rw [zip_self]
    exact sortP_mem⟩
theorem recO_is {ns : List ByteArray} {ps : List Vl} {u : Vl} : recO ns ps = some u ↔ ns.length = ps.length ∧ ns.Nodup ∧ IsRec ns ps u := by
  unfold recO
  constructor
  · intro h
    split at h
    · rename_i hh
      injection h with h
      subst h
      exact ⟨hh.1, hh.2, recO_made hh.1 hh.2⟩
    · cases h
  · rintro ⟨h1, h2, h3⟩
    rw [if_pos ⟨h1, h2⟩, (recO_made h1 h2).uniq h3]
theorem recO_none {ns : List ByteArray} {ps : List Vl} (h : ns.length ≠ ps.length ∨ ¬ ns.Nodup) : recO ns ps = none := by
  unfold recO
  rw [if_neg]
  rintro ⟨h1, h2⟩
  rcases h with h | h
  · exact h h1
  · exact h h2
theorem recO_cnt {ns : List ByteArray} {ps : List Vl} {u : Vl} (h : recO ns ps = some u) : u.cnt = 1 + ns.length + cntL ps := by
  unfold recO at h
  split at h
  · rename_i hh
    injection h with h
    subst h
    have e := sortP_cnt (l := ns.zip ps)
    rw [Vl.cnt, e.1, zip_snd hh.1, List.length_map, e.2, List.length_zip, ← hh.1, Nat.min_self]
  · cases h
def ren (f t n : ByteArray) : ByteArray := if n = f then t else n
mutual
/-- A value with another name for a name. -/
def Vl.named (f t : ByteArray) : Vl → Option Vl
  | .mk k ns ps => if k.kind ≠ 3 then some (.mk k ns ps) else match namedL f t ps with
    | some qs => recO (ns.map (ren f t)) qs
    | none => none
def namedL (f t : ByteArray) : List Vl → Option (List Vl)
  | [] => some []
  | p :: ps => match p.named f t, namedL f t ps with
    | some q, some qs => some (q :: qs)
    | _, _ => none
end
theorem namedL_map {f t : ByteArray} : ∀ {ps qs : List Vl}, namedL f t ps = some qs ↔ ps.map (Vl.named f t) = qs.map some
  | [], qs => by
    rw [namedL]
    cases qs <;> simp
  | p :: ps, qs => by
    rw [namedL]
    cases hp : p.named f t with
    | none => cases qs <;> simp [hp]
    | some q =>
      cases hl : namedL f t ps with
      | none =>
        simp only [List.map_cons, hp]
        refine ⟨fun h => (by cases h), fun h => ?_⟩
        cases qs with
        | nil => simp at h
        | cons q' qs =>
          simp only [List.map_cons, List.cons.injEq] at h
          have := namedL_map.2 h.2
          rw [hl] at this
          cases this
      | some rs =>
        have e := namedL_map.1 hl
        simp only [List.map_cons, hp, Option.some.injEq]
        constructor
        · rintro rfl
          rw [List.map_cons, e]
        · intro h
          cases qs with
          | nil => simp at h
          | cons q' qs =>
            simp only [List.map_cons, List.cons.injEq, Option.some.injEq] at h
            rw [e] at h
            rw [h.1, List.map_inj_right (fun _ _ h => Option.some.inj h) |>.1 h.2]
theorem namedL_none {f t : ByteArray} {p : Vl} : ∀ {ps : List Vl}, p ∈ ps → p.named f t = none → namedL f t ps = none
  | a :: ps, h, k => by
    rw [namedL]
    rcases List.mem_cons.1 h with rfl | h
    · rw [k]
    · rw [namedL_none h k]
      cases a.named f t <;> rfl
theorem namedL_snoc {f t : ByteArray} {ps qs : List Vl} {i : Nat} {p q : Vl} (h : namedL f t (ps.take i) = some qs) (e : ps[i]? = some p) (k : p.named f t = some q) : namedL f t (ps.take (i + 1)) = some (qs ++ [q]) := by
  rw [namedL_map] at h ⊢
  rw [List.take_add_one, e, List.map_append, h, List.map_append]
  simp [k]
theorem namedL_len {f t : ByteArray} {ps qs : List Vl} (h : namedL f t ps = some qs) : qs.length = ps.length := by
  have := congrArg List.length (namedL_map.1 h)
  simpa using this.symm
theorem namedL_mem {f t : ByteArray} {ps qs : List Vl} {q : Vl} (h : namedL f t ps = some qs) (hq : q ∈ qs) : ∃ p ∈ ps, p.named f t = some q := by
  have h := namedL_map.1 h
  have : some q ∈ ps.map (Vl.named f t) := by rw [h]; exact List.mem_map_of_mem hq
  obtain ⟨p, hp, e⟩ := List.mem_map.1 this
  exact ⟨p, hp, e⟩
theorem cntL_named {f t : ByteArray} : ∀ {ps qs : List Vl}, (∀ p ∈ ps, ∀ q, p.named f t = some q → q.cnt = p.cnt) → namedL f t ps = some qs → cntL qs = cntL ps
  | [], qs, _, h => by rw [namedL] at h; injection h with h; subst h; rfl
  | p :: ps, qs, ih, h => by
    rw [namedL] at h
    cases hp : p.named f t with
    | none => rw [hp] at h; cases h
    | some q =>
      cases hl : namedL f t ps with
      | none => rw [hp, hl] at h; cases h
      | some rs =>
        rw [hp, hl] at h
        injection h with h
        subst h
        rw [cntL, cntL, ih p List.mem_cons_self q hp, cntL_named (fun p hp => ih p (List.mem_cons_of_mem _ hp)) hl]
theorem named_cnt {f t : ByteArray} : ∀ (v u : Vl), v.named f t = some u → u.cnt = v.cnt := by
  refine Vl.ind fun k ns ps ih u h => ?_
  rw [Vl.named] at h
  split at h
  · injection h with h
    rw [h]
  · cases hl : namedL f t ps with
    | none => rw [hl] at h; cases h
    | some qs =>
      rw [hl] at h
      rw [recO_cnt h, cntL_named (fun p hp q e => ih p hp q e) hl, List.length_map, Vl.cnt]
mutual
/-- Does a name stand in a value? -/
def Vl.has (x : ByteArray) : Vl → Bool
  | .mk _ ns ps => ns.any (fun n => decide (n = x)) || hasL x ps
def hasL (x : ByteArray) : List Vl → Bool
  | [] => false
  | p :: ps => p.has x || hasL x ps
end
theorem hasL_any {x : ByteArray} : ∀ ps : List Vl, hasL x ps = ps.any (Vl.has x)
  | [] => rfl
  | p :: ps => by rw [hasL, hasL_any ps, List.any_cons]
theorem ren_back {f t n : ByteArray} (h : n ≠ t) : ren t f (ren f t n) = n := by
  unfold ren
  by_cases h1 : n = f
  · rw [if_pos h1, if_pos rfl, h1]
  · rw [if_neg h1, if_neg h]
/-- There and back. -/
theorem named_back {f t : ByteArray} : ∀ (v : Vl), v.right = true → v.has t = false → ∀ a, v.named f t = some a → a.named t f = some v ∧ a.right = true := by
  refine Vl.ind fun k ns ps ih hr hh a ha => ?_
  have hr0 := hr
  rw [Vl.named] at ha
  split at ha
  · rename_i hk
    injection ha with ha
    subst ha
    exact ⟨by rw [Vl.named, if_pos hk], hr0⟩
  · rename_i hk
    have hk3 : k.kind = 3 := by omega
    cases hl : namedL f t ps with
    | none => rw [hl] at ha; cases ha
    | some qs =>
      rw [hl] at ha
      obtain ⟨e1, e2, hrec⟩ := recO_is.1 ha
      have hcase : k = ⟨3, 0, ⟨#[]⟩⟩ ∧ ns.length = ps.length ∧ riseB ns = true := by
        rcases right_cases hr with ⟨h, _⟩ | ⟨h, _⟩ | ⟨h, _⟩ | ⟨h1, h2, h3, h4, h5⟩
        · omega
        · omega
        · omega
        · obtain ⟨k1, k2, k3⟩ := k
          simp only at h1 h2 h3
          subst h1 h2 h3
          exact ⟨rfl, h4, h5⟩
      obtain ⟨rfl, hlen, hrise⟩ := hcase
      have hpr : ∀ p ∈ ps, p.right = true := fun p hp => right_part hr hp
      rw [Vl.has, Bool.or_eq_false_iff, hasL_any, List.any_eq_false, List.any_eq_false] at hh
      have hnt : ∀ x ∈ ns, x ≠ t := fun x hx e => hh.1 x hx (by simp [e])
      have hpt : ∀ p ∈ ps, p.has t = false := fun p hp => by have := hh.2 p hp; simpa using this
      have hpq : ∀ p ∈ ps, ∀ q, p.named f t = some q → q.named t f = some p ∧ q.right = true := fun p hp q e => ih p hp (hpr p hp) (hpt p hp) q e
      obtain ⟨E, hE⟩ : ∃ E : Vl → Vl, ∀ p, E p = (p.named f t).getD p := ⟨_, fun _ => rfl⟩
      obtain ⟨D, hD⟩ : ∃ D : Vl → Vl, ∀ p, D p = (p.named t f).getD p := ⟨_, fun _ => rfl⟩
      have hall : ∀ p ∈ ps, p.named f t = some (E p) := fun p hp => by
        have : p.named f t ∈ qs.map some := by rw [← namedL_map.1 hl]; exact List.mem_map_of_mem hp
        obtain ⟨q, _, e⟩ := List.mem_map.1 this
        rw [hE, ← e]
        rfl
      have hDE : ∀ p ∈ ps, D (E p) = p := fun p hp => by
        rw [hD, (hpq p hp _ (hall p hp)).1]
        rfl
      have hqs : qs = ps.map E := by
        have h1 := namedL_map.1 hl
        have h2 : ps.map (Vl.named f t) = (ps.map E).map some := by
          rw [List.map_map]
          exact List.map_congr_left fun p hp => hall p hp
        rw [h2] at h1
        exact (List.map_inj_right (fun _ _ h => Option.some.inj h) |>.1 h1).symm
      have hzip : (ns.map (ren f t)).zip qs = (ns.zip ps).map (Prod.map (ren f t) E) := by rw [hqs, List.zip_map]
      obtain ⟨ka, an, ap⟩ := a
      have hka := hrec.kind
      have hra := hrec.rise
      have hla := hrec.len
      have hma := hrec.mem
      simp only [hd_mk, names_mk, parts_mk] at hka hra hla hma
      subst hka
      have hright : (Vl.mk ⟨3, 0, ⟨#[]⟩⟩ an ap).right = true := hrec.right fun q hq => by
        obtain ⟨p, hp, e⟩ := namedL_mem hl hq
        exact (hpq p hp q e).2
      refine ⟨?_, hright⟩
      have hap : ∀ q ∈ ap, ∃ p ∈ ps, q = E p := fun q hq => by
        have := hrec.parts hq
        rw [hqs] at this
        obtain ⟨p, hp, e⟩ := List.mem_map.1 this
        exact ⟨p, hp, e.symm⟩
      have han : ∀ y ∈ an, ∃ x ∈ ns, y = ren f t x := fun y hy => by
        obtain ⟨x, hx, e⟩ := List.mem_map.1 (hrec.names hy)
        exact ⟨x, hx, e.symm⟩
      have hln : namedL t f ap = some (ap.map D) := by
        rw [namedL_map, List.map_map]
        refine List.map_congr_left fun q hq => ?_
        obtain ⟨p, hp, rfl⟩ := hap q hq
        show (E p).named t f = some (D (E p))
        rw [hDE p hp, (hpq p hp _ (hall p hp)).1]
      rw [Vl.named, if_neg (by simp), hln]
      refine recO_is.2 ⟨by rw [List.length_map, List.length_map, hla], ?_, rfl, hrise, hlen, fun x p => ?_⟩
      · unfold List.Nodup
        rw [List.pairwise_map]
        refine List.Pairwise.imp_of_mem (fun {y1 y2} h1 h2 hne e => hne ?_) (rise_nodup hra)
        obtain ⟨x1, hx1, rfl⟩ := han y1 h1
        obtain ⟨x2, hx2, rfl⟩ := han y2 h2
        rw [ren_back (hnt x1 hx1), ren_back (hnt x2 hx2)] at e
        rw [e]
      · simp only [names_mk, parts_mk]
        rw [List.zip_map]
        constructor
        · intro hm
          have h1 := List.of_mem_zip hm
          have h2 : (ren f t x, E p) ∈ an.zip ap := (hma _ _).2 (by rw [hzip]; exact List.mem_map.2 ⟨(x, p), hm, rfl⟩)
          exact List.mem_map.2 ⟨_, h2, by rw [Prod.map, ren_back (hnt x h1.1), hDE p h1.2]⟩
        · intro hm
          obtain ⟨⟨y, q⟩, h2, e⟩ := List.mem_map.1 hm
          have h3 := (hma _ _).1 h2
          rw [hzip] at h3
          obtain ⟨⟨x', p'⟩, h4, e'⟩ := List.mem_map.1 h3
          have h5 := List.of_mem_zip h4
          simp only [Prod.map, Prod.mk.injEq] at e e'
          obtain ⟨rfl, rfl⟩ := e'
          rw [ren_back (hnt x' h5.1), hDE p' h5.2] at e
          rw [← e.1, ← e.2]
          exact h4
end Vm
end Go.Proofs.YtbjlhdjcdinmhaaDoor
