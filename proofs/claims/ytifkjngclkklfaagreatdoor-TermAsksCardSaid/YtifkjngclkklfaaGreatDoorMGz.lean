/- Mathematics of records: their parts, their depth; types that may be are counted. -/
import Derived.Test.YtifkjngclkklfaaGreatDoorMGj
import Derived.Test.YtifkjngclkklfaaGreatDoorMGi
import Derived.Test.YtifkjngclkklfaaGreatDoorMGr
import Derived.Test.YtifkjngclkklfaaGreatDoorMGg
namespace Go.Proofs.YtifkjngclkklfaaGreatDoor
namespace Tm
theorem size_right : ∀ (d : Nat) (most : Int) (t : Ty), 0 ≤ most → t.right = true → sizeF d most t ≤ most → (t.cnt : Int) + 1 ≤ 2 * sizeF d most t
  | 0, most, t, _, _, h => by rw [sizeF] at h; omega
  | d + 1, most, t, h0, hr, h => by
    obtain ⟨k, ns, ps⟩ := t
    have hnp : ns.length ≤ ps.length := by
      rcases right_cases hr with ⟨_, rfl, _⟩ | ⟨_, e, _⟩ | ⟨_, rfl, _⟩
      · simp
      · omega
      · simp
    have hrp : ∀ p ∈ ps, p.right = true := fun p hp => right_part (t := .mk k ns ps) hr hp
    rw [sizeF, names_mk, parts_mk] at h
    rw [sizeF, names_mk, parts_mk]
    split at h
    · omega
    · rename_i hn
      rw [if_neg hn]
      have key : ∀ (l : List Ty) (c : Int), (∀ p ∈ l, p.right = true) → 1 ≤ c → sumL (sizeF d) most c l ≤ most → (cntL l : Int) + l.length + 2 * c ≤ 2 * sumL (sizeF d) most c l := by
        intro l
        induction l with
        | nil => intro c _ _ _; simp [sumL, cntL]
        | cons a l ih =>
          intro c hl h1 h2
          rw [sumL] at h2 ⊢
          split at h2
          · rename_i hc
            rw [if_pos hc]
            have hge : c + sizeF d (most - c) a ≤ most := by
              have := sumL_ge (f := sizeF d) (most := most) (l := l) (c := c + sizeF d (most - c) a) (fun p _ k hk => by have := size_bounds d k p hk; omega)
              omega
            have b1 := size_bounds d (most - c) a (by omega)
            have i1 := size_right d (most - c) a (by omega) (hl a List.mem_cons_self) (by omega)
            have j1 := ih _ (fun p hp => hl p (List.mem_cons_of_mem _ hp)) (by omega) h2
            rw [cntL, List.length_cons]
            push_cast
            omega
          · omega
      have k1 := key ps 1 hrp (by omega) h
      rw [Ty.cnt]
      push_cast
      omega
theorem light_right {t : Ty} (h : t.light = true) (hr : t.right = true) : t.cnt ≤ 400 := by
  have h := of_decide_eq_true h
  have := size_right 30 200 t (by omega) hr h
  omega
theorem cntL_le {n : Nat} : ∀ {l : List Ty}, (∀ t ∈ l, t.cnt ≤ n) → cntL l ≤ l.length * n
  | [], _ => by simp [cntL]
  | a :: l, h => by
    have h1 := h a List.mem_cons_self
    have h2 := cntL_le (l := l) fun t ht => h t (List.mem_cons_of_mem _ ht)
    rw [cntL, List.length_cons, Nat.add_mul]
    omega
theorem nodup_len' {α : Type} [DecidableEq α] : ∀ {l m : List α}, l.Nodup → (∀ x ∈ l, x ∈ m) → l.length ≤ m.length
  | [], _, _, _ => by simp
  | a :: l, m, hn, h => by
    have hn := List.nodup_cons.1 hn
    have ha := h a List.mem_cons_self
    have := nodup_len' (l := l) (m := m.erase a) hn.2 fun x hx => (List.mem_erase_of_ne (fun e => hn.1 (by rw [← e]; exact hx))).2 (h x (List.mem_cons_of_mem _ hx))
    rw [List.length_erase_of_mem ha] at this
    have hp := List.length_pos_of_mem ha
    rw [List.length_cons]
    omega
theorem nodup_len {l m : List ByteArray} (h : l.Nodup) (k : ∀ x ∈ l, x ∈ m) : l.length ≤ m.length := nodup_len' h k
section
variable {ns : List ByteArray} {ps : List Ty} {t : Ty}
theorem IsRec.names (h : IsRec ns ps t) {x : ByteArray} (hx : x ∈ t.names) : x ∈ ns := by
  rw [← zip_fst h.len, List.mem_map] at hx
  obtain ⟨⟨y, p⟩, hm, rfl⟩ := hx
  exact (List.of_mem_zip ((h.mem y p).1 hm)).1
theorem IsRec.parts (h : IsRec ns ps t) {p : Ty} (hx : p ∈ t.parts) : p ∈ ps := by
  rw [← zip_snd h.len, List.mem_map] at hx
  obtain ⟨⟨y, q⟩, hm, rfl⟩ := hx
  exact (List.of_mem_zip ((h.mem y q).1 hm)).2
theorem IsRec.parts' (h : IsRec ns ps t) (hl : ns.length = ps.length) {p : Ty} (hx : p ∈ ps) : p ∈ t.parts := by
  rw [← zip_snd hl, List.mem_map] at hx
  obtain ⟨⟨y, q⟩, hm, rfl⟩ := hx
  exact (List.of_mem_zip ((h.mem y q).2 hm)).2
theorem IsRec.len_le (h : IsRec ns ps t) : t.names.length ≤ ns.length := nodup_len (rise_nodup h.rise) fun _ hx => h.names hx
theorem IsRec.depth (h : IsRec ns ps t) (hl : ns.length = ps.length) : t.depth = depthL ps + 1 := by
  have e : depthL t.parts = depthL ps := by
    apply Nat.le_antisymm
    · exact depthL_le fun p hp => depth_mem (h.parts hp)
    · exact depthL_le fun p hp => depth_mem (h.parts' hl hp)
  obtain ⟨k, a, b⟩ := t
  rw [Ty.depth]
  simp only [parts_mk] at e
  omega
theorem IsRec.cnt (h : IsRec ns ps t) {n : Nat} (hp : ∀ p ∈ ps, p.cnt ≤ n) : t.cnt ≤ 1 + ns.length + ns.length * n := by
  have h1 := h.len_le
  have h2 := cntL_le (l := t.parts) fun p hq => hp p (h.parts hq)
  have h3 := h.len
  obtain ⟨k, a, b⟩ := t
  rw [Ty.cnt]
  simp only [names_mk, parts_mk] at h1 h2 h3
  have : b.length * n ≤ ns.length * n := Nat.mul_le_mul_right _ (by omega)
  omega
theorem IsRec.at (h : IsRec ns ps t) (_hl : ns.length = ps.length) {i : Nat} {x : ByteArray} {p : Ty} (e : ns[i]? = some x) (e' : ps[i]? = some p) : t.field x = some p := by
  have hm : (x, p) ∈ ns.zip ps := List.mem_of_getElem? (i := i) (by rw [List.getElem?_zip_eq_some]; exact ⟨e, e'⟩)
  have hm2 := (h.mem x p).2 hm
  unfold Ty.field
  rw [if_pos h.kind]
  have := lk_map (l := t.names.zip t.parts) (by rw [zip_fst h.len]; exact rise_nodup h.rise) hm2
  rw [zip_fst h.len, zip_snd h.len] at this
  exact this
theorem IsRec.has (h : IsRec ns ps t) (hl : ns.length = ps.length) (x : ByteArray) : (t.field x).isSome = ns.any (fun n => decide (n = x)) := by
  rw [Bool.eq_iff_iff, List.any_eq_true]
  constructor
  · intro hs
    obtain ⟨p, hp⟩ := Option.isSome_iff_exists.1 hs
    unfold Ty.field at hp
    rw [if_pos h.kind] at hp
    exact ⟨x, h.names (lk_mem hp).2, by simp⟩
  · rintro ⟨y, hy, e⟩
    obtain rfl : y = x := by simpa using e
    obtain ⟨i, hi, rfl⟩ := List.getElem_of_mem hy
    rw [h.at hl (List.getElem?_eq_getElem hi) (List.getElem?_eq_getElem (by omega : i < ps.length))]
    rfl
end
theorem fnOf_depth (ps : List Ty) : (fnOf ps dyn).depth = max (depthL ps) 1 + 1 := by
  have key : ∀ l : List Ty, depthL (l ++ [dyn]) = max (depthL l) 1 := by
    intro l
    induction l with
    | nil => simp [depthL, dyn, Ty.depth]
    | cons a l ih => rw [List.cons_append, depthL, depthL, ih]; omega
  rw [fnOf, Ty.depth, key]
  omega
end Tm
end Go.Proofs.YtifkjngclkklfaaGreatDoor
