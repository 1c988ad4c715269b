/- Mathematics: what types have in common. -/
import Derived.Test.YtifkjngclkklfaaGreatDoorMGe
import Derived.Deep.LoopGhost
import Derived.Deep.CutRange
import Derived.Deep.OwnRows
import Derived.Test.YtifkjngclkklfaaGreatDoorMGd
import Derived.Lib.QuietBelow
import Derived.BigQuiet
namespace Go.Proofs.YtifkjngclkklfaaGreatDoor
namespace Tm
/-- What two records have in common: names, and what their parts have. -/
def comR (f : Ty → Ty → Ty) (bn : List ByteArray) (bp : List Ty) : List ByteArray → List Ty → List (ByteArray × Ty)
  | x :: xs, p :: ps => match lk bn bp x with
    | some q => (x, f p q) :: comR f bn bp xs ps
    | none => comR f bn bp xs ps
  | _, _ => []
def recOf (l : List (ByteArray × Ty)) : Ty := .mk 3 (l.map Prod.fst) (l.map Prod.snd)
/-- The last of some. -/
def lastT : List Ty → Ty
  | [] => dyn
  | [t] => t
  | _ :: u :: l => lastT (u :: l)
def initT (l : List Ty) : List Ty := l.take (l.length - 1)
def fnOf (ps : List Ty) (t : Ty) : Ty := .mk 4 [] (ps ++ [t])
def comF : Nat → Ty → Ty → Ty
  | 0, _, _ => dyn
  | n + 1, a, b =>
    if a.kind = 3 ∧ b.kind = 3 then recOf (comR (comF n) b.names b.parts a.names a.parts)
    else if a.kind = 4 ∧ b.kind = 4 then (if initT a.parts = initT b.parts then fnOf (initT a.parts) (comF n (lastT a.parts) (lastT b.parts)) else dyn)
    else if a = b then a else dyn
def com (a b : Ty) : Ty := comF (max a.depth b.depth) a b
theorem comR_congr {f g : Ty → Ty → Ty} {bn : List ByteArray} {bp : List Ty} : ∀ {xs : List ByteArray} {ps : List Ty}, (∀ p q, p ∈ ps → q ∈ bp → f p q = g p q) → comR f bn bp xs ps = comR g bn bp xs ps
  | [], _, _ => by simp [comR]
  | _ :: _, [], _ => by simp [comR]
  | x :: xs, p :: ps, h => by
    rw [comR, comR, comR_congr fun p q hp hq => h p q (List.mem_cons_of_mem _ hp) hq]
    cases e : lk bn bp x with
    | none => rfl
    | some q => simp only [h p q List.mem_cons_self (lk_mem e).1]
theorem lastT_mem : ∀ {l : List Ty}, 0 < l.length → lastT l ∈ l
  | [t], _ => by simp [lastT]
  | _ :: u :: l, _ => by
    rw [lastT]
    exact List.mem_cons_of_mem _ (lastT_mem (by simp))
theorem initT_last : ∀ {l : List Ty}, 0 < l.length → initT l ++ [lastT l] = l
  | [t], _ => by simp [initT, lastT]
  | a :: u :: l, _ => by
    have := initT_last (l := u :: l) (by simp)
    unfold initT at *
    rw [lastT]
    simp only [List.length_cons, Nat.add_sub_cancel] at *
    rw [List.take_succ_cons, List.cons_append, this]
theorem lastT_get {l : List Ty} (h : 0 < l.length) : lastT l = l[l.length - 1]'(by omega) := by
  have e := initT_last h
  have h1 : l[l.length - 1]? = some (lastT l) := by
    conv => lhs; rw [← e]
    have : (initT l).length = l.length - 1 := by simp [initT]
    rw [List.getElem?_append_right (by rw [this, ← this]; simp [initT])]
    simp [initT]
  rw [List.getElem?_eq_getElem (by omega)] at h1
  injection h1 with h1
  exact h1.symm
theorem initT_mem {l : List Ty} {t : Ty} (h : t ∈ initT l) : t ∈ l := List.mem_of_mem_take h
theorem comF_eq : ∀ (n m : Nat) (a b : Ty), a.right = true → b.right = true → a.depth ≤ n → b.depth ≤ n → a.depth ≤ m → b.depth ≤ m → comF n a b = comF m a b
  | 0, _, a, _, _, _, h, _, _, _ => by have := a.depth_pos; omega
  | _ + 1, 0, a, _, _, _, _, _, h, _ => by have := a.depth_pos; omega
  | n + 1, m + 1, a, b, ra, rb, h1, h2, h3, h4 => by
    have key : ∀ p q, p ∈ a.parts → q ∈ b.parts → comF n p q = comF m p q := fun p q hp hq => by
      have := depth_part hp
      have := depth_part hq
      exact comF_eq n m p q (right_part ra hp) (right_part rb hq) (by omega) (by omega) (by omega) (by omega)
    rw [comF, comF, comR_congr key]
    split
    · rfl
    · split
      · rename_i k
        rw [key _ _ (lastT_mem (right_fn ra k.1).2) (lastT_mem (right_fn rb k.2).2)]
      · rfl
theorem comF_com {n : Nat} {a b : Ty} (ra : a.right = true) (rb : b.right = true) (h : a.depth ≤ n) (k : b.depth ≤ n) : comF n a b = com a b := comF_eq _ _ _ _ ra rb h k (by omega) (by omega)
theorem com_eq {a b : Ty} (ra : a.right = true) (rb : b.right = true) : com a b =
    if a.kind = 3 ∧ b.kind = 3 then recOf (comR com b.names b.parts a.names a.parts)
    else if a.kind = 4 ∧ b.kind = 4 then (if initT a.parts = initT b.parts then fnOf (initT a.parts) (com (lastT a.parts) (lastT b.parts)) else dyn)
    else if a = b then a else dyn := by
  have := a.depth_pos
  obtain ⟨n, hn⟩ : ∃ n, max a.depth b.depth = n + 1 := ⟨max a.depth b.depth - 1, by omega⟩
  have key : ∀ p q, p ∈ a.parts → q ∈ b.parts → comF n p q = com p q := fun p q hp hq => by
    have := depth_part hp
    have := depth_part hq
    exact comF_com (right_part ra hp) (right_part rb hq) (by omega) (by omega)
  rw [com, hn, comF, comR_congr key]
  split
  · rfl
  · split
    · rename_i k
      rw [key _ _ (lastT_mem (right_fn ra k.1).2) (lastT_mem (right_fn rb k.2).2)]
    · rfl
theorem com_rec {a b : Ty} (ra : a.right = true) (rb : b.right = true) (h : a.kind = 3) (k : b.kind = 3) : com a b = recOf (comR com b.names b.parts a.names a.parts) := by
  rw [com_eq ra rb, if_pos ⟨h, k⟩]
theorem com_fn {a b : Ty} (ra : a.right = true) (rb : b.right = true) (h : a.kind = 4) (k : b.kind = 4) : com a b = if initT a.parts = initT b.parts then fnOf (initT a.parts) (com (lastT a.parts) (lastT b.parts)) else dyn := by
  rw [com_eq ra rb, if_neg (show ¬ (a.kind = 3 ∧ b.kind = 3) by omega), if_pos ⟨h, k⟩]
theorem com_else {a b : Ty} (ra : a.right = true) (rb : b.right = true) (h : ¬ (a.kind = 3 ∧ b.kind = 3)) (k : ¬ (a.kind = 4 ∧ b.kind = 4)) : com a b = if a = b then a else dyn := by
  rw [com_eq ra rb, if_neg h, if_neg k]
/-- Which pairs two records have in common. -/
theorem comR_mem {f : Ty → Ty → Ty} {bn : List ByteArray} {bp : List Ty} : ∀ {xs : List ByteArray} {ps : List Ty}, xs.Nodup → ∀ x r, (x, r) ∈ comR f bn bp xs ps ↔ ∃ p q, lk xs ps x = some p ∧ lk bn bp x = some q ∧ r = f p q
  | [], _, _, x, r => by simp [comR, lk]
  | _ :: _, [], _, x, r => by simp [comR, lk]
  | y :: xs, p :: ps, hn, x, r => by
    have hn := List.nodup_cons.1 hn
    have ih := comR_mem (f := f) (bn := bn) (bp := bp) (xs := xs) (ps := ps) hn.2 x r
    rw [comR, lk]
    by_cases hxy : y = x
    · subst hxy
      rw [if_pos rfl]
      have no : ¬ (y, r) ∈ comR f bn bp xs ps := fun h => by
        obtain ⟨p, _, h1, _⟩ := ih.1 h
        exact hn.1 (lk_mem h1).2
      cases e : lk bn bp y with
      | none => simp only []; constructor
                · exact fun h => absurd h no
                · rintro ⟨_, _, _, h, _⟩; cases h
      | some q =>
        simp only [List.mem_cons, Prod.mk.injEq, true_and]
        constructor
        · rintro (rfl | h)
          · exact ⟨p, q, rfl, rfl, rfl⟩
          · exact absurd h no
        · rintro ⟨p', q', h1, h2, rfl⟩
          injection h1 with h1; injection h2 with h2; subst h1 h2
          exact .inl rfl
    · rw [if_neg hxy]
      cases e : lk bn bp y with
      | none => exact ih
      | some q =>
        simp only [List.mem_cons, Prod.mk.injEq]
        rw [← ih]
        constructor
        · rintro (⟨h, _⟩ | h)
          · exact absurd h.symm hxy
          · exact h
        · exact .inr
theorem comR_sub {f : Ty → Ty → Ty} {bn : List ByteArray} {bp : List Ty} : ∀ {xs : List ByteArray} {ps : List Ty} {x : ByteArray}, x ∈ (comR f bn bp xs ps).map Prod.fst → x ∈ xs
  | [], _, _, h => by simp [comR] at h
  | _ :: _, [], _, h => by simp [comR] at h
  | y :: xs, p :: ps, x, h => by
    rw [comR] at h
    cases e : lk bn bp y with
    | none => rw [e] at h; exact List.mem_cons_of_mem _ (comR_sub h)
    | some q =>
      rw [e] at h
      simp only [List.map_cons, List.mem_cons] at h
      rcases h with rfl | h
      · exact List.mem_cons_self
      · exact List.mem_cons_of_mem _ (comR_sub h)
theorem rise_cons {n : ByteArray} {ns : List ByteArray} (h : riseB ns = true) (k : ∀ x ∈ ns, lt n x = true) : riseB (n :: ns) = true := by
  cases ns with
  | nil => rfl
  | cons m ns => rw [riseB, Bool.and_eq_true]; exact ⟨k m List.mem_cons_self, h⟩
theorem comR_rise {f : Ty → Ty → Ty} {bn : List ByteArray} {bp : List Ty} : ∀ {xs : List ByteArray} {ps : List Ty}, riseB xs = true → riseB ((comR f bn bp xs ps).map Prod.fst) = true
  | [], _, _ => by simp [comR, riseB]
  | _ :: _, [], _ => by simp [comR, riseB]
  | y :: xs, p :: ps, h => by
    rw [comR]
    cases e : lk bn bp y with
    | none => exact comR_rise (rise_tail h)
    | some q => exact rise_cons (comR_rise (rise_tail h)) fun x hx => rise_lt h x (comR_sub hx)
/-- Pairs whose names rise are told by which they are. -/
theorem pairs_ext {l m : List (ByteArray × Ty)} (hl : riseB (l.map Prod.fst) = true) (hm : riseB (m.map Prod.fst) = true) (h : ∀ x r, (x, r) ∈ l ↔ (x, r) ∈ m) : l = m := by
  have e : l.map Prod.fst = m.map Prod.fst := by
    refine rise_ext hl hm fun x => ?_
    simp only [List.mem_map]
    exact ⟨fun ⟨⟨y, r⟩, h1, h2⟩ => ⟨⟨y, r⟩, (h y r).1 h1, h2⟩, fun ⟨⟨y, r⟩, h1, h2⟩ => ⟨⟨y, r⟩, (h y r).2 h1, h2⟩⟩
  have hlen : l.length = m.length := by have := congrArg List.length e; simpa using this
  refine List.ext_getElem hlen fun i h1 h2 => ?_
  have e1 : l[i].1 = m[i].1 := by
    have : (l.map Prod.fst)[i]'(by simpa using h1) = (m.map Prod.fst)[i]'(by simpa using h2) := by simp only [e]
    simpa using this
  have hi : (l[i].1, l[i].2) ∈ m := (h _ _).1 (List.getElem_mem h1)
  obtain ⟨j, hj, ej⟩ := List.getElem_of_mem hi
  have hij : i = j := by
    have nd := rise_nodup hm
    have e2 : (m.map Prod.fst)[i]'(by simpa using h2) = (m.map Prod.fst)[j]'(by simpa using hj) := by
      simp only [List.getElem_map, ej, ← e1]
    exact (List.getElem_inj nd).1 e2
  subst hij
  exact ej.symm
theorem recOf_inj {l m : List (ByteArray × Ty)} (h : l = m) : recOf l = recOf m := by rw [h]
theorem com_self : ∀ a : Ty, a.right = true → com a a = a := by
  refine Ty.ind fun k ns ps ih hr => ?_
  rcases right_cases hr with ⟨hk, _, _⟩ | ⟨rfl, hl, _, hn⟩ | ⟨rfl, hnil, hl⟩
  · rw [com_else hr hr (by simp only [Ty.kind]; omega) (by simp only [Ty.kind]; omega), if_pos rfl]
  · rw [com_rec hr hr rfl rfl]
    have key : ∀ (xs : List ByteArray) (qs : List Ty), xs.length = qs.length → (∀ i (h : i < xs.length) (h' : i < qs.length), lk ns ps xs[i] = some qs[i] ∧ qs[i] ∈ ps) → comR com ns ps xs qs = xs.zip qs := by
      intro xs
      induction xs with
      | nil => intro qs _ _; simp [comR]
      | cons x xs ihx =>
        intro qs hq hh
        cases qs with
        | nil => simp at hq
        | cons q qs =>
          have h0 := hh 0 (by simp) (by simp)
          simp only [List.getElem_cons_zero] at h0
          rw [comR, h0.1]
          simp only [List.zip_cons_cons]
          rw [ih q h0.2 (right_part hr h0.2), ihx qs (by simpa using hq) fun i h h' => hh (i + 1) (by simpa using h) (by simpa using h')]
    have e := key ns ps hl fun i h h' => ⟨lk_at (rise_nodup hn) h h', List.getElem_mem h'⟩
    simp only [Ty.names, Ty.parts]
    rw [e]
    unfold recOf
    rw [List.map_fst_zip (by omega), List.map_snd_zip (by omega)]
  · rw [com_fn hr hr rfl rfl, if_pos rfl]
    simp only [Ty.parts]
    have hm := lastT_mem hl
    rw [ih _ hm (right_part hr hm)]
    unfold fnOf
    rw [initT_last hl, hnil]
theorem com_comm : ∀ (n : Nat) (a b : Ty), a.depth ≤ n → a.right = true → b.right = true → com a b = com b a := by
  intro n
  induction n with
  | zero => intro a _ h; have := a.depth_pos; omega
  | succ n ih =>
    intro a b da ra rb
    by_cases h3 : a.kind = 3 ∧ b.kind = 3
    · rw [com_rec ra rb h3.1 h3.2, com_rec rb ra h3.2 h3.1]
      have na := (right_rec ra h3.1).2.2
      have nb := (right_rec rb h3.2).2.2
      refine recOf_inj (pairs_ext (comR_rise na) (comR_rise nb) fun x r => ?_)
      rw [comR_mem (rise_nodup na), comR_mem (rise_nodup nb)]
      constructor
      · rintro ⟨p, q, h1, h2, rfl⟩
        have mp := (lk_mem h1).1
        have := depth_part mp
        exact ⟨q, p, h2, h1, ih p q (by omega) (right_part ra mp) (right_part rb (lk_mem h2).1)⟩
      · rintro ⟨q, p, h2, h1, rfl⟩
        have mp := (lk_mem h1).1
        have := depth_part mp
        exact ⟨p, q, h1, h2, (ih p q (by omega) (right_part ra mp) (right_part rb (lk_mem h2).1)).symm⟩
    · by_cases h4 : a.kind = 4 ∧ b.kind = 4
      · rw [com_fn ra rb h4.1 h4.2, com_fn rb ra h4.2 h4.1]
        by_cases e : initT a.parts = initT b.parts
        · have ma := lastT_mem (right_fn ra h4.1).2
          have mb := lastT_mem (right_fn rb h4.2).2
          have := depth_part ma
          rw [if_pos e, if_pos e.symm, e, ih _ _ (by omega) (right_part ra ma) (right_part rb mb)]
        · rw [if_neg e, if_neg (fun e' => e e'.symm)]
      · rw [com_else ra rb h3 h4, com_else rb ra (fun h => h3 ⟨h.2, h.1⟩) (fun h => h4 ⟨h.2, h.1⟩)]
        by_cases e : a = b
        · rw [if_pos e, if_pos e.symm, e]
        · rw [if_neg e, if_neg (fun e' => e e'.symm)]
theorem dyn_right : dyn.right = true := by rw [dyn, Ty.right, rightL]; rfl
theorem right_mk {k : Int} {ns : List ByteArray} {ps : List Ty} (h : ownB k ns ps.length = true) (hp : ∀ p ∈ ps, p.right = true) : (Ty.mk k ns ps).right = true := by
  rw [Ty.right, rightL_all, Bool.and_eq_true, List.all_eq_true]
  exact ⟨h, hp⟩
theorem fnOf_right {ps : List Ty} {t : Ty} (h : ∀ p ∈ ps, p.right = true) (k : t.right = true) : (fnOf ps t).right = true := by
  refine right_mk ?_ fun p hp => ?_
  · unfold ownB; simp
  · rcases List.mem_append.1 hp with hp | hp
    · exact h p hp
    · rw [List.mem_singleton.1 hp]; exact k
theorem com_right : ∀ (n : Nat) (a b : Ty), a.depth ≤ n → a.right = true → b.right = true → (com a b).right = true := by
  intro n
  induction n with
  | zero => intro a _ h; have := a.depth_pos; omega
  | succ n ih =>
    intro a b da ra rb
    by_cases h3 : a.kind = 3 ∧ b.kind = 3
    · rw [com_rec ra rb h3.1 h3.2]
      obtain ⟨la, aa, na⟩ := right_rec ra h3.1
      refine right_mk ?_ fun p hp => ?_
      · have h1 : ((comR com b.names b.parts a.names a.parts).map Prod.fst).all nmB = true := by
          rw [List.all_eq_true] at aa ⊢
          exact fun x hx => aa x (comR_sub hx)
        unfold ownB
        rw [if_neg (by omega), if_pos rfl, h1, comR_rise na]
        simp
      · obtain ⟨⟨x, r⟩, hm, rfl⟩ := List.mem_map.1 hp
        obtain ⟨p, q, h1, h2, rfl⟩ := (comR_mem (rise_nodup na) x r).1 hm
        have mp := (lk_mem h1).1
        have := depth_part mp
        exact ih p q (by omega) (right_part ra mp) (right_part rb (lk_mem h2).1)
    · by_cases h4 : a.kind = 4 ∧ b.kind = 4
      · rw [com_fn ra rb h4.1 h4.2]
        split
        · have ma := lastT_mem (right_fn ra h4.1).2
          have mb := lastT_mem (right_fn rb h4.2).2
          have := depth_part ma
          exact fnOf_right (fun p hp => right_part ra (initT_mem hp)) (ih _ _ (by omega) (right_part ra ma) (right_part rb mb))
        · exact dyn_right
      · rw [com_else ra rb h3 h4]
        split
        · exact ra
        · exact dyn_right
theorem lk_map {l : List (ByteArray × Ty)} (h : (l.map Prod.fst).Nodup) {x : ByteArray} {r : Ty} (hm : (x, r) ∈ l) : lk (l.map Prod.fst) (l.map Prod.snd) x = some r := by
  obtain ⟨i, hi, e⟩ := List.getElem_of_mem hm
  have := lk_at (ns := l.map Prod.fst) (ps := l.map Prod.snd) h (i := i) (by simpa using hi) (by simpa using hi)
  simpa [e] using this
theorem flows_com : ∀ (n : Nat) (a b : Ty), a.depth ≤ n → a.right = true → b.right = true → flows a (com a b) = true := by
  intro n
  induction n with
  | zero => intro a _ h; have := a.depth_pos; omega
  | succ n ih =>
    intro a b da ra rb
    by_cases h3 : a.kind = 3 ∧ b.kind = 3
    · rw [com_rec ra rb h3.1 h3.2]
      obtain ⟨la, aa, na⟩ := right_rec ra h3.1
      rw [flows_rec h3.1 rfl]
      have hmem := comR_mem (f := com) (bn := b.names) (bp := b.parts) (ps := a.parts) (rise_nodup na)
      obtain ⟨l, hl⟩ : ∃ l, l = comR com b.names b.parts a.names a.parts := ⟨_, rfl⟩
      rw [← hl] at hmem ⊢
      clear hl
      refine (flRec_iff (by simp [recOf])).2 fun i hi hi' => ?_
      have hi2 : i < l.length := by simpa [recOf] using hi
      have hm := List.getElem_mem hi2
      obtain ⟨p, q, h1, h2, e⟩ := (hmem _ _).1 hm
      have mp := (lk_mem h1).1
      have := depth_part mp
      have := ih p q (by omega) (right_part ra mp) (right_part rb (lk_mem h2).1)
      refine ⟨p, by simpa [recOf] using h1, ?_⟩
      have e2 : (recOf l).parts[i]'hi' = com p q := by rw [← e]; simp [recOf]
      rw [e2]
      exact this
    · by_cases h4 : a.kind = 4 ∧ b.kind = 4
      · rw [com_fn ra rb h4.1 h4.2]
        split
        · have la := (right_fn ra h4.1).2
          have lb := (right_fn rb h4.2).2
          have ma := lastT_mem la
          have mb := lastT_mem lb
          have := depth_part ma
          rw [flows_fn h4.1 rfl]
          have hlen : (initT a.parts).length = a.parts.length - 1 := by simp [initT]
          refine (flFn_iff la).2 ⟨by simp only [fnOf, parts_mk, List.length_append, hlen, List.length_singleton]; omega, fun i hi => ⟨fun h => ?_, fun h => ?_⟩⟩
          · have e1 : a.parts[i] = lastT a.parts := by
              rw [lastT_get la]
              congr 1; omega
            have e2 : ∀ hh, (fnOf (initT a.parts) (com (lastT a.parts) (lastT b.parts))).parts[i]'hh = com (lastT a.parts) (lastT b.parts) := by
              intro hh
              simp only [fnOf, parts_mk]
              rw [List.getElem_append_right (by omega)]
              simp
            rw [e1, e2]
            exact ih _ _ (by omega) (right_part ra ma) (right_part rb mb)
          · have e2 : ∀ hh, (fnOf (initT a.parts) (com (lastT a.parts) (lastT b.parts))).parts[i]'hh = a.parts[i] := by
              intro hh
              simp only [fnOf, parts_mk]
              rw [List.getElem_append_left (by omega)]
              simp [initT]
            rw [e2]
            exact flows_refl _ (right_part ra (List.getElem_mem hi))
        · exact flows_dyn a
      · rw [com_else ra rb h3 h4]
        split
        · exact flows_refl a ra
        · exact flows_dyn a
end Tm
end Go.Proofs.YtifkjngclkklfaaGreatDoor
/- Memory in which one block turns, the reader; nodes in memory. -/
namespace Go.Proofs.YtifkjngclkklfaaGreatDoor
open Go.RowKit

/-- Nothing below block B turns but block rb. -/
structure Fr (rb B : Nat) (w w' : World) : Prop where
  os : w'.os = w.os
  tape : w'.tape = w.tape
  output : w'.output = w.output
  size : w.heap.size ≤ w'.heap.size
  block : ∀ k, k < B → k ≠ rb → w'.heap[k]? = w.heap[k]?
theorem Fr.refl (rb B : Nat) (w : World) : Fr rb B w w := ⟨rfl, rfl, rfl, Nat.le_refl _, fun _ _ _ => rfl⟩
theorem Fr.trans {rb B : Nat} {a b c : World} (h : Fr rb B a b) (k : Fr rb B b c) : Fr rb B a c :=
  ⟨k.os.trans h.os, k.tape.trans h.tape, k.output.trans h.output, Nat.le_trans h.size k.size, fun i hi hr => (k.block i hi hr).trans (h.block i hi hr)⟩
theorem Fr.mono {rb B B' : Nat} {w w' : World} (h : Fr rb B w w') (hB : B' ≤ B) : Fr rb B' w w' := ⟨h.os, h.tape, h.output, h.size, fun k hk hr => h.block k (by omega) hr⟩
theorem Fr.of {rb B : Nat} {w w' : World} (h : Below B w w') : Fr rb B w w' := ⟨h.os, h.tape, h.output, h.size, fun k hk _ => h.block k hk⟩
theorem Fr.below {rb B B' : Nat} {w w' : World} (h : Fr rb B w w') (h1 : B' ≤ B) (h2 : B' ≤ rb) : Below B' w w' := ⟨h.os, h.tape, h.output, h.size, fun k hk => h.block k (by omega) (by omega)⟩
theorem Fr.alloc {rb B : Nat} {a w : World} (h : Fr rb B a w) (hB : B ≤ w.heap.size) (o : Obj) : Fr rb B a (w.alloc o) := h.trans (.of ((Below.refl _ _).alloc hB o))
theorem Fr.setCell {rb B : Nat} {a w : World} (h : Fr rb B a w) {p : Addr} (hp : B ≤ p.block) (u : Value) : Fr rb B a (w.setCell p u) := h.trans (.of ((Below.refl _ _).setCell hp u))
theorem Fr.put {rb B : Nat} {a w : World} (h : Fr rb B a w) (i : Nat) (u : Value) : Fr rb B a (w.setCell ⟨rb, i, none⟩ u) :=
  h.trans ⟨rfl, rfl, rfl, by simp [World.setCell], fun k _ hr => Below.heap_setCell _ _ _ _ hr⟩
theorem Fr.grown {rb B : Nat} {a w w' : World} {row : Option Nat} (h : Fr rb B a w) (hg : w.grownBy w' row) (hB : B ≤ w.heap.size) (hr : ∀ k, row = some k → B ≤ k) : Fr rb B a w' := h.trans (.of ((Below.refl _ _).grown hg hB hr))
theorem Fr.step {rb : Nat} {w w1 w2 : World} (h : Fr rb w.heap.size w w1) (h' : Fr rb w1.heap.size w1 w2) : Fr rb w.heap.size w w2 := h.trans (h'.mono h.size)
theorem Fr.cell {rb B : Nat} {w w' : World} (h : Fr rb B w w') {p : Addr} (hp : p.block < B) (hr : p.block ≠ rb) : w'.cell? p = w.cell? p := World.cell?_of_block (w := w) (h.block p.block hp hr)
theorem Fr.row {rb B g t : Nat} {w w' : World} {cs : Array Value} (h : Fr rb B w w') (hr : RowB w g t cs) (hg : g < B) (hn : g ≠ rb) : RowB w' g t cs := (h.block g hg hn).trans hr
theorem Fr.own {rb : Nat} {w w' : World} {base e size n : Nat} {v : Value} {xs : List Value} (hb : Fr rb w.heap.size w w') (h : w.ownsRow base e size v n xs) (hr : rb < base) : w'.ownsRow base e size v n xs := by
  have hlt := h.lt
  refine ⟨h.1, ?_⟩
  rcases h.2 with ⟨hv, hn⟩ | ⟨g, cap, cur, rfl, h1, h2, h3⟩
  · exact .inl ⟨hv, hn⟩
  · have := hlt g rfl
    exact .inr ⟨g, cap, cur, rfl, h1, (hb.block g this.2 (by omega)).trans h2, h3⟩

theorem bel1 (w : World) (o1 : Obj) : Below w.heap.size w (w.alloc o1) := (Below.refl _ _).alloc (Nat.le_refl _) _
namespace Ps
/-- Cells of nodes beside one another, with those below them, in blocks of P. -/
def FC (w : World) (P : Nat → Prop) : Fo → List Value → Prop
  | .nil, cs => cs = []
  | .cons h k r, cs => ∃ A cap cs', cs = [.int .i64 h.kind, .int .i64 h.fro, .int .i64 h.til, .string h.word, .int .i64 h.at_, .slice A k.len cap] ++ cs' ∧ k.len ≤ cap ∧
      (0 < k.len → ∃ (g o : Nat) (ck : List Value), A = some ⟨g, o, none⟩ ∧ P g ∧ g < w.heap.size ∧ (∀ j u, ck[j]? = some u → w.cell? ⟨g, o + j, none⟩ = some u) ∧ FC w P k ck) ∧ FC w P r cs'
/-- A slice's nodes. -/
def KV (w : World) (P : Nat → Prop) (k : Fo) (A : Option Addr) (cap : Nat) : Prop :=
  k.len ≤ cap ∧ (0 < k.len → ∃ (g o : Nat) (ck : List Value), A = some ⟨g, o, none⟩ ∧ P g ∧ g < w.heap.size ∧ (∀ j u, ck[j]? = some u → w.cell? ⟨g, o + j, none⟩ = some u) ∧ FC w P k ck)
theorem FC.cons {w : World} {P : Nat → Prop} {h : Hd} {k r : Fo} {A : Option Addr} {cap : Nat} {cs : List Value} (hk : KV w P k A cap) (hr : FC w P r cs) :
    FC w P (.cons h k r) ([.int .i64 h.kind, .int .i64 h.fro, .int .i64 h.til, .string h.word, .int .i64 h.at_, .slice A k.len cap] ++ cs) := by
  rw [FC]
  exact ⟨A, cap, cs, rfl, hk.1, hk.2, hr⟩
theorem FC.one {w : World} {P : Nat → Prop} {h : Hd} {k : Fo} {A : Option Addr} {cap : Nat} (hk : KV w P k A cap) :
    FC w P (.one h k) [.int .i64 h.kind, .int .i64 h.fro, .int .i64 h.til, .string h.word, .int .i64 h.at_, .slice A k.len cap] := by
  have := FC.cons (h := h) (r := .nil) (cs := []) hk (by rw [FC])
  exact this
/-- Memory in which the blocks of P stay. -/
theorem FC.keep {w w' : World} {P Q : Nat → Prop} (hs : w.heap.size ≤ w'.heap.size) (hb : ∀ g, P g → g < w.heap.size → w'.heap[g]? = w.heap[g]? ∧ Q g) : ∀ (f : Fo) (cs : List Value), FC w P f cs → FC w' Q f cs
  | .nil, cs, h => by rw [FC] at h ⊢; exact h
  | .cons hd k r, cs, h => by
    rw [FC] at h ⊢
    obtain ⟨A, cap, cs', e, hc, hk, hr⟩ := h
    refine ⟨A, cap, cs', e, hc, fun h0 => ?_, FC.keep hs hb r cs' hr⟩
    obtain ⟨g, o, ck, e1, h1, h2, h3, h4⟩ := hk h0
    obtain ⟨b1, b2⟩ := hb g h1 h2
    exact ⟨g, o, ck, e1, b2, Nat.lt_of_lt_of_le h2 hs, fun j u hu => (World.cell?_of_block (w := w) b1).trans (h3 j u hu), FC.keep hs hb k ck h4⟩
theorem KV.keep {w w' : World} {P Q : Nat → Prop} (hs : w.heap.size ≤ w'.heap.size) (hb : ∀ g, P g → g < w.heap.size → w'.heap[g]? = w.heap[g]? ∧ Q g) {k : Fo} {A : Option Addr} {cap : Nat} (h : KV w P k A cap) : KV w' Q k A cap := by
  refine ⟨h.1, fun h0 => ?_⟩
  obtain ⟨g, o, ck, e1, h1, h2, h3, h4⟩ := h.2 h0
  obtain ⟨b1, b2⟩ := hb g h1 h2
  exact ⟨g, o, ck, e1, b2, Nat.lt_of_lt_of_le h2 hs, fun j u hu => (World.cell?_of_block (w := w) b1).trans (h3 j u hu), FC.keep hs hb k ck h4⟩
theorem FC.app {w : World} {P : Nat → Prop} : ∀ (a : Fo) (ca : List Value) {b : Fo} {cb : List Value}, FC w P a ca → FC w P b cb → FC w P (a.app b) (ca ++ cb)
  | .nil, ca, b, cb, h, h' => by rw [FC] at h; subst h; exact h'
  | .cons hd k r, ca, b, cb, h, h' => by
    rw [FC] at h
    obtain ⟨A, cap, cs', e, hc, hk, hr⟩ := h
    rw [Fo.app, FC]
    exact ⟨A, cap, cs' ++ cb, by rw [e, List.append_assoc], hc, hk, FC.app r cs' hr h'⟩
theorem FC.len {w : World} {P : Nat → Prop} : ∀ (a : Fo) (ca : List Value), FC w P a ca → ca.length = a.len * 6
  | .nil, ca, h => by rw [FC] at h; subst h; rfl
  | .cons hd k r, ca, h => by
    rw [FC] at h
    obtain ⟨A, cap, cs', e, hc, hk, hr⟩ := h
    have := FC.len r cs' hr
    rw [e, Fo.len, List.length_append, this]
    simp
    omega
theorem FC.cell1 {w : World} {P : Nat → Prop} : ∀ (a : Fo) (ca : List Value), FC w P a ca → ∀ u ∈ ca, u.oneCell' = true
  | .nil, ca, h => by rw [FC] at h; subst h; simp
  | .cons hd k r, ca, h => by
    rw [FC] at h
    obtain ⟨A, cap, cs', e, hc, hk, hr⟩ := h
    have := FC.cell1 r cs' hr
    rw [e]
    intro u hu
    rcases List.mem_append.1 hu with h | h
    · simp at h
      rcases h with rfl | rfl | rfl | rfl | rfl | rfl <;> rfl
    · exact this u h
theorem KV.nil (w : World) (P : Nat → Prop) (A : Option Addr) (cap : Nat) : KV w P .nil A cap := ⟨Nat.zero_le _, fun h => by simp [Fo.len] at h⟩
/-- A row that is one's own holds nodes. -/
theorem KV.of_own {w : World} {base n cap : Nat} {P Q : Nat → Prop} {A : Option Addr} {k : Fo} {cs : List Value} (h : w.ownsRow base 71 6 (.slice A n cap) n cs) (hn : n = k.len) (hf : FC w P k cs) (hP : ∀ g, P g → Q g) (hb : ∀ g, base ≤ g → (Value.slice A n cap).ownBlock = some g → Q g) (hc : n ≤ cap) : KV w Q k A cap := by
  subst hn
  refine ⟨hc, fun h0 => ?_⟩
  have hlt := h.lt
  rcases h.2 with ⟨hv, hx⟩ | ⟨g, cap', cur, hv, h1, h2, h3⟩
  · omega
  · injection hv with e1 _ _
    subst e1
    have := (hlt g rfl)
    refine ⟨g, 0, cs, rfl, hb g this.1 rfl, this.2, fun j u hu => ?_, FC.keep (Nat.le_refl _) (fun g hg _ => ⟨rfl, hP g hg⟩) k cs hf⟩
    have := h.cells (g := g) rfl j u hu
    simp only [Addr.add] at this
    by_cases hj : j = 0 <;> simpa [hj] using this
/-- A block just made holds nodes. -/
theorem KV.new {w : World} {g : Nat} {P : Nat → Prop} {k : Fo} {cs : Array Value} (h : RowB w g 71 cs) (hf : FC w P k cs.toList) (hb : P g) : KV w P k (some ⟨g, 0, none⟩) k.len :=
  ⟨Nat.le_refl _, fun _ => ⟨g, 0, cs.toList, rfl, hb, h.lt, fun j u hu => by rw [Nat.zero_add, h.cell j]; simpa using hu, hf⟩⟩

/-- A reader, where its tokens lie. -/
structure Cx where
  rb : Nat
  A : Option Addr
  l : List Tok
  c : Nat
abbrev Cx.p (X : Cx) : Value := .pointer (some ⟨X.rb, 0, none⟩)
structure Wf (l : List Tok) : Prop where
  pos : 0 < l.length
  next : ∀ i (h : i < l.length), l[i].kind ≠ 0 → i + 1 < l.length
  le : l.length ≤ 4000
structure St (X : Cx) (w : World) (b : Int) : Prop where
  row : RowB w X.rb 100 #[.slice X.A X.l.length X.c, .int .i64 b]
  toks : ∃ g, X.A = some ⟨g, 0, none⟩ ∧ g < X.rb ∧ ∀ i (h : i < X.l.length),
    w.cell? ⟨g, i * 4, none⟩ = some (.int .i64 X.l[i].kind) ∧ w.cell? ⟨g, i * 4 + 1, none⟩ = some (.int .i64 X.l[i].at_) ∧ w.cell? ⟨g, i * 4 + 2, none⟩ = some (.string X.l[i].lead) ∧ w.cell? ⟨g, i * 4 + 3, none⟩ = some (.string X.l[i].text)
  wf : Wf X.l
  cap : X.l.length ≤ X.c
  bl : b < X.l.length
theorem St.below {X : Cx} {w w' : World} {b : Int} (h : St X w b) (hb : Below w.heap.size w w') : St X w' b := by
  have hl := h.row.lt
  refine ⟨h.row.below hb hl, ?_, h.wf, h.cap, h.bl⟩
  obtain ⟨g, e, hg, hc⟩ := h.toks
  refine ⟨g, e, hg, fun i hi => ?_⟩
  obtain ⟨c0, c1, c2, c3⟩ := hc i hi
  have hg' : g < w.heap.size := by omega
  exact ⟨(hb.cell (p := ⟨g, i * 4, none⟩) hg').trans c0, (hb.cell (p := ⟨g, i * 4 + 1, none⟩) hg').trans c1, (hb.cell (p := ⟨g, i * 4 + 2, none⟩) hg').trans c2, (hb.cell (p := ⟨g, i * 4 + 3, none⟩) hg').trans c3⟩
theorem St.alloc {X : Cx} {w : World} {b : Int} (h : St X w b) (o : Obj) : St X (w.alloc o) b := h.below ((Below.refl _ _).alloc (Nat.le_refl _) o)
theorem St.far {X : Cx} {w : World} {b : Int} (h : St X w b) {p : Addr} (hp : X.rb < p.block) (u : Value) : St X (w.setCell p u) b := by
  refine ⟨h.row.far (by omega) u, ?_, h.wf, h.cap, h.bl⟩
  obtain ⟨g, e, hg, hc⟩ := h.toks
  refine ⟨g, e, hg, fun i hi => ?_⟩
  obtain ⟨c0, c1, c2, c3⟩ := hc i hi
  have hb : Below (X.rb + 1) w (w.setCell p u) := (Below.refl _ _).setCell hp u
  have hg' : g < X.rb + 1 := by omega
  exact ⟨(hb.cell (p := ⟨g, i * 4, none⟩) hg').trans c0, (hb.cell (p := ⟨g, i * 4 + 1, none⟩) hg').trans c1, (hb.cell (p := ⟨g, i * 4 + 2, none⟩) hg').trans c2, (hb.cell (p := ⟨g, i * 4 + 3, none⟩) hg').trans c3⟩
theorem St.grown {X : Cx} {w w' : World} {b : Int} {row : Option Nat} (h : St X w b) (hg : w.grownBy w' row) (hr : ∀ k, row = some k → X.rb < k) : St X w' b := by
  have hl := h.row.lt
  have hb : Below (X.rb + 1) w w' := (Below.refl _ _).grown hg (by omega) (fun k hk => hr k hk)
  refine ⟨h.row.below hb (by omega), ?_, h.wf, h.cap, h.bl⟩
  obtain ⟨g, e, hg, hc⟩ := h.toks
  refine ⟨g, e, hg, fun i hi => ?_⟩
  obtain ⟨c0, c1, c2, c3⟩ := hc i hi
  have hg' : g < X.rb + 1 := by omega
  exact ⟨(hb.cell (p := ⟨g, i * 4, none⟩) hg').trans c0, (hb.cell (p := ⟨g, i * 4 + 1, none⟩) hg').trans c1, (hb.cell (p := ⟨g, i * 4 + 2, none⟩) hg').trans c2, (hb.cell (p := ⟨g, i * 4 + 3, none⟩) hg').trans c3⟩
/-- The reader can't go on. -/
theorem St.stop {X : Cx} {w : World} {b : Int} (h : St X w b) (b' : Int) (hbl : b' < X.l.length) : St X (w.setCell ⟨X.rb, 1, none⟩ (.int .i64 b')) b' := by
  have hr := h.row.put 1 (.int .i64 b')
  refine ⟨hr, ?_, h.wf, h.cap, hbl⟩
  obtain ⟨g, e, hg, hc⟩ := h.toks
  refine ⟨g, e, hg, fun i hi => ?_⟩
  obtain ⟨c0, c1, c2, c3⟩ := hc i hi
  have hb : Below X.rb w (w.setCell ⟨X.rb, 1, none⟩ (.int .i64 b')) := (Below.refl _ _).setCell (p := ⟨X.rb, 1, none⟩) (Nat.le_refl _) _
  exact ⟨(hb.cell (p := ⟨g, i * 4, none⟩) hg).trans c0, (hb.cell (p := ⟨g, i * 4 + 1, none⟩) hg).trans c1, (hb.cell (p := ⟨g, i * 4 + 2, none⟩) hg).trans c2, (hb.cell (p := ⟨g, i * 4 + 3, none⟩) hg).trans c3⟩
end Ps
end Go.Proofs.YtifkjngclkklfaaGreatDoor
/- Contracts: whether a text is a name: the document, the program. -/
namespace Go.Proofs.YtifkjngclkklfaaGreatDoor
open Go.RowKit Go.Op
theorem allW_take {s : ByteArray} {k : Nat} (h : k < s.size) (ha : allW s.data.toList = true) : wdN (s[k]'h).toNat = true := by
  unfold allW at ha
  rw [List.all_eq_true] at ha
  exact ha _ (by simp [ByteArray.getElem_eq_getElem_data])
theorem allW_not {s : ByteArray} {k : Nat} (h : k < s.size) (hw : wdN (s[k]'h).toNat = false) : allW s.data.toList = false := by
  cases ha : allW s.data.toList
  · rfl
  · rw [allW_take h ha] at hw; cases hw
theorem allW_yes {s : ByteArray} (h : ∀ k (hk : k < s.size), wdN (s[k]'hk).toNat = true) : allW s.data.toList = true := by
  unfold allW
  rw [List.all_eq_true]
  intro x hx
  obtain ⟨k, hk, rfl⟩ := List.getElem_of_mem hx
  exact h k (by simpa using hk)

set_option maxHeartbeats 4000000 in
theorem rname_any (s : ByteArray) (hs : s.size ≤ 9223372036854775807) (w : World) : Calls Tryz.prog 42 #[.string s] w fun e w' => e = .returned (.bool (rnameL s.data.toList)) ∧ Below w.heap.size w w' := by
  obtain ⟨N, hN⟩ : ∃ N, N = rnameL s.data.toList := ⟨_, rfl⟩
  rw [← hN]
  unfold rnameL at hN
  rw [len_list] at hN
  by_cases h0 : s.size = 0
  · have q : ((s.size : Int) == 0) = true := by rw [beq_iff_eq]; omega
    rw [decide_eq_true h0] at hN
    have HN := Lib.hid hN
    clear hN h0
    go_enter Tryz.func42, Tryz.ntmps42
    go_wp2_with fail
    go_ret
    exact ⟨rb (by rw [HN.out]; simp), Below.refl _ _⟩
  have q0 : ((s.size : Int) == 0) = false := by rw [beq_eq_false_iff_ne]; omega
  rw [decide_eq_false h0, Bool.false_or] at hN
  by_cases h40 : s.size > 40
  · have q : (s.size : Int) > 40 := by omega
    rw [decide_eq_true h40] at hN
    have HN := Lib.hid hN
    clear hN h0 h40
    go_enter Tryz.func42, Tryz.ntmps42
    go_wp2_with fail
    go_ret
    exact ⟨rb (by rw [HN.out]; simp), Below.refl _ _⟩
  have q1 : ¬ (s.size : Int) > 40 := by omega
  rw [decide_eq_false h40, Bool.false_or] at hN
  have c1 := rkey_any s w
  cases hk : keyL s.data.toList
  · rw [hk] at c1 hN
    rw [Bool.false_or] at hN
    have h00 : 0 < s.size := by omega
    rw [head_of s h00] at hN
    have c2 := fun w => rdigit_any (s[0]'h00).toNat w
    cases hd : digN (s[0]'h00).toNat
    · rw [hd] at c2 hN
      rw [Bool.not_false, Bool.true_and] at hN
      have HN := Lib.hid hN
      have C1 := Lib.hid c1
      have C2 := Lib.hid c2
      clear c1 c2 hN h0 h40 hk hd
      go_enter Tryz.func42, Tryz.ntmps42
      go_wp2_with fail
      refine C1.out.mono ?_
      rintro e w1 ⟨rfl, hb⟩
      have HB := Lib.hid hb
      clear hb
      go_wp2_with fail
      refine (C2.out _).mono ?_
      rintro e w2 ⟨rfl, rfl⟩
      go_wp2_with fail
      go_loopg [3] s.size (fun kx a wr => ∃ k : Nat, a = .int .i64 k ∧ k ≤ s.size ∧ s.size - k ≤ kx ∧ Hid (∀ j (hj : j < s.size), j < k → wdN (s[j]'hj).toNat = true) ∧ Hid (w1 = wr))
      case atStart => exact ⟨0, rfl, by omega, by omega, fun j hj h => by omega, rfl⟩
      case round =>
        obtain ⟨k, rfl, hk, hkx, HA, HW⟩ := hrel
        obtain rfl := HW.out
        by_cases hlt : k < s.size
        · have hlz : (k : Int) < (s.size : Int) := by omega
          have c3 := fun w => rletter_any (s[k]'hlt).toNat w
          have c4 := fun w => rdigit_any (s[k]'hlt).toNat w
          cases hl : letN (s[k]'hlt).toNat
          · rw [hl] at c3
            cases hg : digN (s[k]'hlt).toNat
            · rw [hg] at c4
              have HF : Hid (N = false) := by
                show _ = _
                rw [HN.out]
                exact allW_not hlt (by unfold wdN; rw [hl, hg]; rfl)
              have C3 := Lib.hid c3
              have C4 := Lib.hid c4
              clear c3 c4 hl hg
              go_wp2_with fail
              refine (C3.out _).mono ?_
              rintro e w2 ⟨rfl, rfl⟩
              go_wp2_with fail
              refine (C4.out _).mono ?_
              rintro e w2 ⟨rfl, rfl⟩
              go_wp2_with fail
              go_ret
              exact ⟨rb (by rw [HF.out]), HB.out⟩
            · rw [hg] at c4
              have HA2 : Hid (∀ j (hj : j < s.size), j < k + 1 → wdN (s[j]'hj).toNat = true) := by
                intro j hj h
                by_cases e : j = k
                · subst e; unfold wdN; rw [hg]; simp
                · exact HA.out j hj (by omega)
              have C3 := Lib.hid c3
              have C4 := Lib.hid c4
              clear c3 c4 hl hg
              go_wp2_with fail
              refine (C3.out _).mono ?_
              rintro e w2 ⟨rfl, rfl⟩
              go_wp2_with fail
              refine (C4.out _).mono ?_
              rintro e w2 ⟨rfl, rfl⟩
              go_wp2_with fail
              go_roundg (s.size - (k + 1))
              case measure => omega
              case rel => exact ⟨k + 1, by go_num, by omega, by omega, HA2, rfl⟩
          · rw [hl] at c3
            have HA2 : Hid (∀ j (hj : j < s.size), j < k + 1 → wdN (s[j]'hj).toNat = true) := by
              intro j hj h
              by_cases e : j = k
              · subst e; unfold wdN; rw [hl]; rfl
              · exact HA.out j hj (by omega)
            have C3 := Lib.hid c3
            clear c3 c4 hl
            go_wp2_with fail
            refine (C3.out _).mono ?_
            rintro e w2 ⟨rfl, rfl⟩
            go_wp2_with fail
            go_roundg (s.size - (k + 1))
            case measure => omega
            case rel => exact ⟨k + 1, by go_num, by omega, by omega, HA2, rfl⟩
        · obtain rfl : k = s.size := by omega
          have HF : Hid (N = true) := by
            show _ = _
            rw [HN.out]
            exact allW_yes fun j hj => HA.out j hj hj
          have hlz : ¬ (s.size : Int) < (s.size : Int) := by omega
          clear hlt
          go_wp2_with fail
          go_ret
          exact ⟨rb (by rw [HF.out]), HB.out⟩
    · rw [hd] at c2 hN
      have HN := Lib.hid hN
      have C1 := Lib.hid c1
      have C2 := Lib.hid c2
      clear c1 c2 hN h0 h40 hk hd
      go_enter Tryz.func42, Tryz.ntmps42
      go_wp2_with fail
      refine C1.out.mono ?_
      rintro e w1 ⟨rfl, hb⟩
      have HB := Lib.hid hb
      clear hb
      go_wp2_with fail
      refine (C2.out _).mono ?_
      rintro e w2 ⟨rfl, rfl⟩
      go_wp2_with fail
      go_ret
      exact ⟨rb (by rw [HN.out]; simp), HB.out⟩
  · rw [hk] at c1 hN
    have HN := Lib.hid hN
    have C1 := Lib.hid c1
    clear c1 hN h0 h40 hk
    go_enter Tryz.func42, Tryz.ntmps42
    go_wp2_with fail
    refine C1.out.mono ?_
    rintro e w1 ⟨rfl, hb⟩
    have HB := Lib.hid hb
    clear hb
    go_wp2_with fail
    go_ret
    exact ⟨rb (by rw [HN.out]; simp), HB.out⟩

set_option maxHeartbeats 2000000 in
theorem name_any (s : ByteArray) (hs : s.size ≤ 140737488351232) (w : World) : Calls Tryz.prog 83 #[.string s] w fun e w' => e = .returned (.bool (nameL s.data.toList)) ∧ w = w' := by
  obtain ⟨N, hN⟩ : ∃ N, N = nameL s.data.toList := ⟨_, rfl⟩
  rw [← hN]
  unfold nameL at hN
  by_cases h0 : 0 < s.size
  · have hne : s.data.toList ≠ [] := by
      intro e
      have := len_list s
      rw [e] at this
      simp at this
      omega
    have hq : (s.toList != []) = true := by rw [ByteArray.toList_eq]; simpa using hne
    have hq2 : s.toList.isEmpty = false := by rw [ByteArray.toList_eq]; simpa using hne
    rw [decide_eq_true hne, head_of s h0, len_list, Bool.true_and] at hN
    have c1 := letter_any (s[0]'h0).toNat w
    cases h1 : letN (s[0]'h0).toNat
    · rw [h1] at c1 hN
      have HN := Lib.hid hN
      have C1 := Lib.hid c1
      clear c1 hN h1 hne
      go_enter Tryz.func83, Tryz.ntmps83
      go_wp2_with fail
      refine C1.out.mono ?_
      rintro e w1 ⟨rfl, rfl⟩
      go_wp2_with fail
      go_ret
      exact ⟨rb (by rw [HN.out]; simp), rfl⟩
    · rw [h1, Bool.true_and] at hN
      rw [h1] at c1
      have c2 := wlen_any s hs w
      obtain ⟨n, hn⟩ : ∃ n, n = wLen s.data.toList := ⟨_, rfl⟩
      rw [← hn] at c2 hN
      by_cases h2 : n = s.size
      · have q2 : ((n : Int) == (s.size : Int)) = true := by simp; omega
        rw [decide_eq_true h2, Bool.true_and] at hN
        by_cases h3 : s.size ≤ 40
        · have q3 : (s.size : Int) ≤ 40 := by omega
          rw [decide_eq_true h3, Bool.true_and] at hN
          have c3 := key_any s w
          have HN := Lib.hid hN
          have C1 := Lib.hid c1
          have C2 := Lib.hid c2
          have C3 := Lib.hid c3
          clear c1 c2 c3 hN h1 hne hn h2
          go_enter Tryz.func83, Tryz.ntmps83
          go_wp2_with fail
          refine C1.out.mono ?_
          rintro e w1 ⟨rfl, rfl⟩
          go_wp2_with fail
          refine C2.out.mono ?_
          rintro e w1 ⟨rfl, rfl⟩
          go_wp2_with fail
          refine C3.out.mono ?_
          rintro e w1 ⟨rfl, rfl⟩
          go_wp2_with fail
          go_ret
          exact ⟨rb (by rw [HN.out]), rfl⟩
        · have q3 : ¬ (s.size : Int) ≤ 40 := by omega
          rw [decide_eq_false h3, Bool.false_and] at hN
          have HN := Lib.hid hN
          have C1 := Lib.hid c1
          have C2 := Lib.hid c2
          clear c1 c2 hN h1 hne hn h2
          go_enter Tryz.func83, Tryz.ntmps83
          go_wp2_with fail
          refine C1.out.mono ?_
          rintro e w1 ⟨rfl, rfl⟩
          go_wp2_with fail
          refine C2.out.mono ?_
          rintro e w1 ⟨rfl, rfl⟩
          go_wp2_with fail
          go_ret
          exact ⟨rb (by rw [HN.out]), rfl⟩
      · have q2 : ((n : Int) == (s.size : Int)) = false := by simp; omega
        rw [decide_eq_false h2] at hN
        simp only [Bool.false_and] at hN
        have HN := Lib.hid hN
        have C1 := Lib.hid c1
        have C2 := Lib.hid c2
        clear c1 c2 hN h1 hne hn h2
        go_enter Tryz.func83, Tryz.ntmps83
        go_wp2_with fail
        refine C1.out.mono ?_
        rintro e w1 ⟨rfl, rfl⟩
        go_wp2_with fail
        refine C2.out.mono ?_
        rintro e w1 ⟨rfl, rfl⟩
        go_wp2_with fail
        go_ret
        exact ⟨rb (by rw [HN.out]), rfl⟩
  · have hl : s.data.toList = [] := List.eq_nil_of_length_eq_zero (by rw [len_list]; omega)
    have hq : s.toList = [] := by rw [ByteArray.toList_eq]; exact hl
    have hq2 : s.toList.isEmpty = true := by rw [hq]; rfl
    rw [hl] at hN
    have HN := Lib.hid hN
    clear hl hN h0
    go_enter Tryz.func83, Tryz.ntmps83
    go_wp2_with fail
    go_ret
    exact ⟨rb (by rw [HN.out]; simp), rfl⟩
end Go.Proofs.YtifkjngclkklfaaGreatDoor
