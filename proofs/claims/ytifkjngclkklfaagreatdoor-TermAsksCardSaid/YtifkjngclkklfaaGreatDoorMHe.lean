/- Mathematics: what is parsed may be, and has no more tokens than were read. -/
import Derived.Test.YtifkjngclkklfaaGreatDoorMHd
import Derived.Test.YtifkjngclkklfaaGreatDoorMGz
import Derived.Test.YtifkjngclkklfaaGreatDoorMGl
import Derived.Test.YtifkjngclkklfaaGreatDoorMGp
import Derived.Test.YtifkjngclkklfaaGreatDoorMGx
namespace Go.Proofs.YtifkjngclkklfaaGreatDoor
namespace Tm
open Ps Pg
theorem sum_erase {α : Type} [DecidableEq α] (g : α → Nat) {x : α} : ∀ {m : List α}, x ∈ m → (m.map g).sum = g x + ((m.erase x).map g).sum
  | a :: m, h => by
    by_cases e : a = x
    · subst e
      rw [List.erase_cons_head, List.map_cons, List.sum_cons]
    · rw [List.erase_cons_tail (by simpa using e), List.map_cons, List.sum_cons, List.map_cons, List.sum_cons, sum_erase g ((List.mem_cons.1 h).resolve_left fun h => e h.symm)]
      omega
theorem nodup_sum {α : Type} [DecidableEq α] (g : α → Nat) : ∀ {l m : List α}, l.Nodup → (∀ x ∈ l, x ∈ m) → (l.map g).sum ≤ (m.map g).sum
  | [], m, _, _ => by simp
  | x :: l, m, hn, h => by
    obtain ⟨h1, h2⟩ := List.nodup_cons.1 hn
    rw [sum_erase g (h x List.mem_cons_self), List.map_cons, List.sum_cons]
    have := nodup_sum g (l := l) (m := m.erase x) h2 fun y hy => (List.mem_erase_of_ne (by intro e; subst e; exact h1 hy)).2 (h y (List.mem_cons_of_mem _ hy))
    omega
/-- How many tokens parts have, all together. -/
def sumK (ps : List Ty) : Nat := (ps.map fun p => p.tks.length).sum
theorem sumK_app (a b : List Ty) : sumK (a ++ b) = sumK a + sumK b := by simp [sumK]
theorem sumK_cons (a : Ty) (b : List Ty) : sumK (a :: b) = a.tks.length + sumK b := by simp [sumK]
theorem IsRec.sumK {ns : List ByteArray} {ps : List Ty} {t : Ty} (h : IsRec ns ps t) (hl : ns.length = ps.length) : sumK t.parts ≤ sumK ps := by
  classical
  have e1 : Tm.sumK t.parts = ((t.names.zip t.parts).map fun x => x.2.tks.length).sum := by
    rw [Tm.sumK, ← zip_snd h.len, List.map_map]
    rw [zip_snd h.len]
    rfl
  have e2 : Tm.sumK ps = ((ns.zip ps).map fun x => x.2.tks.length).sum := by
    rw [Tm.sumK, ← zip_snd hl, List.map_map]
    rw [zip_snd hl]
    rfl
  rw [e1, e2]
  refine nodup_sum _ ?_ fun x hx => (h.mem x.1 x.2).1 hx
  have hn := rise_nodup h.rise
  rw [← zip_fst h.len] at hn
  exact List.Pairwise.of_map Prod.fst (fun a b hab e => hab (congrArg _ e)) hn
theorem joinK_len : ∀ (qs : List (List Kt)), (joinK qs).length + min 1 qs.length = (qs.map List.length).sum + qs.length
  | [] => rfl
  | q :: qs => by
    have h : ∀ l : List (List Kt), (l.flatMap fun y => (5, [44]) :: y).length = (l.map List.length).sum + l.length := fun l => by
      induction l with
      | nil => rfl
      | cons a l ih => simp only [List.flatMap_cons, List.length_append, List.length_cons, ih, List.map_cons, List.sum_cons]; omega
    rw [joinK, List.length_append, h]
    simp only [List.map_cons, List.sum_cons, List.length_cons]
    omega
theorem recK_len : ∀ {ns : List ByteArray} {ps : List Ty}, ns.length = ps.length → ((recK ns (tksL ps)).map List.length).sum = sumK ps + 2 * ps.length ∧ (recK ns (tksL ps)).length = ps.length
  | [], [], _ => ⟨rfl, rfl⟩
  | n :: ns, p :: ps, h => by
    obtain ⟨h1, h2⟩ := recK_len (ns := ns) (ps := ps) (by simpa using h)
    rw [tksL, recK, sumK_cons]
    refine ⟨?_, ?_⟩
    · rw [List.map_cons, List.sum_cons, h1]
      show (p.tks.length + 1 + 1) + (sumK ps + 2 * ps.length) = p.tks.length + sumK ps + 2 * (ps.length + 1)
      omega
    · show (recK ns (tksL ps)).length + 1 = ps.length + 1
      rw [h2]
  | [], _ :: _, h => by simp at h
  | _ :: _, [], h => by simp at h
theorem tks_rec {ns : List ByteArray} {ps : List Ty} (h : ns.length = ps.length) : (Ty.mk 3 ns ps).tks.length + min 1 ps.length = 2 + sumK ps + 3 * ps.length := by
  obtain ⟨h1, h2⟩ := recK_len h
  have h3 := joinK_len (recK ns (tksL ps))
  rw [Ty.tks, if_pos rfl]
  simp only [List.length_cons, List.length_append, List.length_nil]
  omega
theorem tks_fn (qs : List Ty) (q : Ty) : (Ty.mk 4 [] (qs ++ [q])).tks.length + min 1 qs.length = 4 + sumK qs + qs.length + q.tks.length := by
  have et : (Ty.mk 4 [] (qs ++ [q])).tks = (2, [102, 110]) :: (5, [40]) :: (joinK (tksL qs) ++ (5, [41]) :: (5, [58]) :: q.tks) := by
    rw [Ty.tks, if_neg (by omega), if_pos rfl, tksL_map, tksL_map, List.map_append, List.length_append]
    simp
  have h3 := joinK_len (tksL qs)
  have h4 : ((tksL qs).map List.length).sum = sumK qs := by rw [tksL_map, List.map_map]; rfl
  have h5 : (tksL qs).length = qs.length := by rw [tksL_map, List.length_map]
  rw [et]
  simp only [List.length_cons, List.length_append]
  omega
theorem tks_plain {k : Int} (h : k = 0 ∨ k = 1 ∨ k = 2) : (Ty.mk k [] []).tks.length = 1 ∧ (Ty.mk k [] []).right = true := by
  refine ⟨?_, ?_⟩
  · rw [Ty.tks, if_neg (by omega), if_neg (by omega)]
    rfl
  · refine right_mk ?_ fun p hp => by cases hp
    unfold ownB
    rw [if_pos h]
    rfl
theorem cntL_sum {n : Nat} : ∀ {ps : List Ty}, (∀ p ∈ ps, p.cnt ≤ n * p.tks.length) → cntL ps ≤ n * sumK ps
  | [], _ => by rw [cntL]; omega
  | p :: ps, h => by
    have h1 := h p List.mem_cons_self
    have h2 := cntL_sum (n := n) (ps := ps) fun q hq => h q (List.mem_cons_of_mem _ hq)
    rw [cntL, sumK_cons, Nat.mul_add]
    omega
/-- A type's cells, by its tokens. -/
theorem cnt_tks : ∀ t : Ty, t.right = true → t.cnt ≤ 2 * t.tks.length := by
  refine Ty.ind fun k ns ps ih hr => ?_
  have hpr := cntL_sum (n := 2) (ps := ps) fun p hp => ih p hp (right_part hr hp)
  rcases right_cases hr with ⟨hk, rfl, rfl⟩ | ⟨rfl, hl, hnm, hrise⟩ | ⟨rfl, rfl, hpos⟩
  · rw [(tks_plain hk).1, Ty.cnt, cntL]
    simp
  · have h := tks_rec hl
    rw [Ty.cnt]
    omega
  · obtain ⟨qs, q, rfl⟩ : ∃ qs q, ps = qs ++ [q] := ⟨ps.dropLast, ps.getLast (List.ne_nil_of_length_pos hpos), (List.dropLast_concat_getLast _).symm⟩
    have h := tks_fn qs q
    rw [sumK_app, sumK_cons] at hpr
    have h0 : sumK [] = 0 := rfl
    rw [Ty.cnt]
    simp only [List.length_nil]
    omega
/-! A type's text is no shorter than its tokens are many. -/
theorem joinB_len2 : ∀ (qs : List (List UInt8)), (joinB qs).length + 2 * min 1 qs.length = (qs.map List.length).sum + 2 * qs.length
  | [] => rfl
  | q :: qs => by
    have h : ∀ l : List (List UInt8), (l.flatMap fun y => [44, 32] ++ y).length = (l.map List.length).sum + 2 * l.length := fun l => by
      induction l with
      | nil => rfl
      | cons a l ih => simp only [List.flatMap_cons, List.length_append, List.length_cons, List.length_nil, ih, List.map_cons, List.sum_cons]; omega
    rw [joinB, List.length_append, h]
    simp only [List.map_cons, List.sum_cons, List.length_cons]
    omega
theorem sum_le2 {ps : List Ty} (h : ∀ p ∈ ps, p.tks.length ≤ p.text.length) : sumK ps ≤ ((textL ps).map List.length).sum := by
  induction ps with
  | nil => rw [textL]; exact Nat.le_refl _
  | cons p ps ih =>
    have h1 := h p List.mem_cons_self
    have h2 := ih fun q hq => h q (List.mem_cons_of_mem _ hq)
    rw [sumK_cons, textL, List.map_cons, List.sum_cons]
    omega
theorem recB_sum3 : ∀ {ns : List ByteArray} {ps : List Ty}, ns.length = ps.length → (∀ n ∈ ns, nmB n = true) → ((textL ps).map List.length).sum + 3 * ps.length ≤ ((recB ns (textL ps)).map List.length).sum ∧ (recB ns (textL ps)).length = ps.length
  | [], [], _, _ => ⟨by simp [textL, recB], rfl⟩
  | n :: ns, p :: ps, h, hn => by
    obtain ⟨h1, h2⟩ := recB_sum3 (ns := ns) (ps := ps) (by simpa using h) fun m hm => hn m (List.mem_cons_of_mem _ hm)
    have h3 : 0 < n.data.toList.length := by
      have := hn n List.mem_cons_self
      unfold nmB nameL at this
      simp only [Bool.and_eq_true, decide_eq_true_eq] at this
      exact List.length_pos_iff.2 this.1.1.1.1
    rw [textL, recB]
    refine ⟨?_, ?_⟩
    · rw [List.map_cons, List.sum_cons, List.map_cons, List.sum_cons]
      have e1 : (n.data.toList ++ [58, 32] ++ p.text).length = n.data.toList.length + 2 + p.text.length := by simp only [List.length_append, List.length_cons, List.length_nil]
      have e2 : (p :: ps).length = ps.length + 1 := rfl
      rw [e1, e2]
      omega
    · show (recB ns (textL ps)).length + 1 = ps.length + 1
      rw [h2]
  | [], _ :: _, h, _ => by simp at h
  | _ :: _, [], h, _ => by simp at h
theorem tks_text : ∀ t : Ty, t.right = true → t.tks.length ≤ t.text.length ∧ (2 < t.tks.length → t.tks.length < t.text.length) := by
  refine Ty.ind fun k ns ps ih hr => ?_
  have hpr := sum_le2 (ps := ps) fun p hp => (ih p hp (right_part hr hp)).1
  rcases right_cases hr with ⟨hk, rfl, rfl⟩ | ⟨rfl, hl, hnm, hrise⟩ | ⟨rfl, rfl, hpos⟩
  · rw [(tks_plain hk).1]
    have : (Ty.mk k [] []).text = plainB k := by rw [Ty.text, if_neg (by omega), if_neg (by omega)]
    rw [this]
    unfold plainB
    split
    · simp
    · split <;> simp
  · have h := tks_rec hl
    rw [List.all_eq_true] at hnm
    obtain ⟨h1, h2⟩ := recB_sum3 hl hnm
    have h3 := joinB_len2 (recB ns (textL ps))
    have h4 : (Ty.mk 3 ns ps).text.length = 2 + (joinB (recB ns (textL ps))).length := by
      rw [Ty.text, if_pos rfl]
      simp only [List.length_append, List.length_cons, List.length_nil]
      omega
    rw [h2] at h3
    by_cases hz : ps.length = 0
    · have hm : min 1 ps.length = 0 := by omega
      have hk0 : sumK ps = 0 := by rw [List.eq_nil_of_length_eq_zero hz]; rfl
      rw [hm] at h h3
      omega
    · have hm : min 1 ps.length = 1 := by omega
      rw [hm] at h h3
      omega
  · obtain ⟨qs, q, rfl⟩ : ∃ qs q, ps = qs ++ [q] := ⟨ps.dropLast, ps.getLast (List.ne_nil_of_length_pos hpos), (List.dropLast_concat_getLast _).symm⟩
    have h := tks_fn qs q
    have ex : (Ty.mk 4 [] (qs ++ [q])).text = [102, 110, 40] ++ joinB (textL qs) ++ [41, 58, 32] ++ q.text := by
      rw [Ty.text, if_neg (by omega), if_pos rfl, textL_map, textL_map, List.map_append, List.length_append]
      simp
    have hq := (ih q (List.mem_append_right _ (List.mem_singleton.2 rfl)) (right_part hr (List.mem_append_right _ (List.mem_singleton.2 rfl)))).1
    have hqs := sum_le2 (ps := qs) fun p hp => (ih p (List.mem_append_left _ hp) (right_part hr (List.mem_append_left _ hp))).1
    have h3 := joinB_len2 (textL qs)
    have h5 : (textL qs).length = qs.length := by rw [textL_map, List.length_map]
    rw [ex]
    simp only [List.length_append, List.length_cons, List.length_nil]
    omega
/-! What was read. -/
/-- All words are names, or none. -/
def wok : Fo → Prop
  | .nil => True
  | .cons h k r => (h.word = e0 ∨ nmB h.word = true) ∧ wok k ∧ wok r
theorem wok_app : ∀ {a b : Fo}, wok a → wok b → wok (a.app b)
  | .nil, _, _, h => h
  | .cons _ _ _, _, ⟨h1, h2, h3⟩, h => ⟨h1, h2, wok_app h3 h⟩
theorem nm_size {n : ByteArray} (h : nmB n = true) : n.size ≤ 40 := by
  unfold nmB nameL at h
  simp only [Bool.and_eq_true, decide_eq_true_eq] at h
  have := h.1.2
  rwa [Array.length_toList] at this
theorem fok_of : ∀ fo : Fo, wok fo → fo.wide ≤ 1000001 → fok fo
  | .nil, _, _ => trivial
  | .cons h k r, ⟨h1, h2, h3⟩, hw => by
    rw [Fo.wide] at hw
    refine ⟨?_, by omega, fok_of k h2 (by omega), fok_of r h3 (by omega)⟩
    rcases h1 with h1 | h1
    · rw [h1]; decide
    · have := nm_size h1
      omega
variable {l : List Tok}
theorem want_ok {b : Int} {i : Nat} {x : List UInt8} (h : (wantM l b i x).2 < 0) : b < 0 ∧ isM l i x = true ∧ wantM l b i x = (i + 1, b) := by
  unfold wantM at h ⊢
  split at h
  · have h' : b < 0 := h
    omega
  · split at h
    · rename_i h1 h2
      rw [if_neg h1, if_pos h2]
      exact ⟨h, h2, rfl⟩
    · have h' : (i : Int) < 0 := h
      omega
theorem word_ok {b : Int} {i : Nat} {hd : Hd} (h : (wordM l b hd i).2.2 < 0) : b < 0 ∧ kindAt l i = 1 ∧ wordM l b hd i = ({ hd with word := textAt l i, at_ := i }, i + 1, b) := by
  unfold wordM at h ⊢
  split at h
  · have h' : b < 0 := h
    omega
  · split at h
    · rename_i h1 h2
      rw [if_neg h1, if_pos h2]
      exact ⟨h, h2, rfl⟩
    · have h' : (i : Int) < 0 := h
      omega
theorem tri_rec_inv {h : Hd} {k r : Fo} {ns : List ByteArray} {ps : List Ty} (e : (tri (.cons h k r)).2.1 = (0, ns, ps)) : ∃ t ns' ps', (tri k).1 = (0, t) ∧ (tri r).2.1 = (0, ns', ps') ∧ ns = h.word :: ns' ∧ ps = t :: ps' := by
  rw [tri] at e
  simp only [recStep] at e
  split at e
  · split at e
    · rename_i _ hne
      simp only [Prod.mk.injEq] at e
      exact absurd e.1 hne
    · rename_i _ h0
      simp only [Prod.mk.injEq] at e
      exact ⟨(tri k).1.2, (tri r).2.1.2.1, (tri r).2.1.2.2, Prod.ext (by omega) rfl, Prod.ext e.1 rfl, e.2.1.symm, e.2.2.symm⟩
  · simp only [Prod.mk.injEq] at e
    exact absurd e.1 (by omega)
theorem tri_fn_inv {h : Hd} {k r : Fo} {ps : List Ty} (e : (tri (.cons h k r)).2.2 = (0, ps)) : ∃ t ps', node h k.len (tri k).2.1 (tri k).2.2 = (0, t) ∧ (tri r).2.2 = (0, ps') ∧ ps = t :: ps' := by
  rw [tri] at e
  simp only [fnStep] at e
  split at e
  · rename_i hne
    simp only [Prod.mk.injEq] at e
    exact absurd e.1 hne
  · rename_i h0
    simp only [Prod.mk.injEq] at e
    exact ⟨(node h k.len (tri k).2.1 (tri k).2.2).2, (tri r).2.2.2, Prod.ext (by omega) rfl, Prod.ext e.1 rfl, e.2.symm⟩
theorem tri_app_inv : ∀ {a b : Fo} {ps : List Ty}, (tri (a.app b)).2.2 = (0, ps) → ∃ ts us, (tri a).2.2 = (0, ts) ∧ (tri b).2.2 = (0, us) ∧ ps = ts ++ us
  | .nil, b, ps, e => ⟨[], ps, by rw [tri], e, rfl⟩
  | .cons h k r, b, ps, e => by
    rw [Fo.app] at e
    obtain ⟨t, ps', h1, h2, rfl⟩ := tri_fn_inv e
    obtain ⟨ts, us, h3, h4, rfl⟩ := tri_app_inv h2
    exact ⟨t :: ts, us, tri_fn h1 h3, h4, rfl⟩
theorem mkRec_ok {ns : List ByteArray} {ps : List Ty} (hl : ns.length = ps.length) (hn : ∀ n ∈ ns, nmB n = true) (hp : ∀ p ∈ ps, p.right = true) :
    (mkRec ns ps).right = true ∧ (mkRec ns ps).tks.length + min 1 ps.length ≤ 2 + sumK ps + 3 * ps.length := by
  by_cases hx : ∃ t, IsRec ns ps t
  · obtain ⟨t, ht⟩ := hx
    rw [mkRec_eq ht]
    have h1 := ht.sumK hl
    have h2 := ht.len_le
    have hk := ht.kind
    have h3 := ht.len
    have h4 := ht.rise
    have h5 : ∀ n ∈ t.names, nmB n = true := fun n h => hn n (ht.names h)
    have h6 : ∀ p ∈ t.parts, p.right = true := fun p h => hp p (ht.parts h)
    obtain ⟨k, a, b⟩ := t
    simp only [kind_mk, names_mk, parts_mk] at *
    subst hk
    refine ⟨right_mk ?_ h6, ?_⟩
    · unfold ownB
      rw [if_neg (by omega), if_pos rfl]
      simp only [h3, h4, decide_true, Bool.true_and, Bool.and_true]
      rw [List.all_eq_true]
      exact h5
    · have := tks_rec h3
      omega
  · have : mkRec ns ps = dyn := by
      unfold mkRec
      exact dif_neg hx
    rw [this]
    refine ⟨(tks_plain (k := 0) (.inl rfl)).2, ?_⟩
    have := (tks_plain (k := 0) (.inl rfl)).1
    unfold dyn
    omega
/-- What is known of what was read. -/
def ParQ (_l : List Tok) (t : TT) (b : Int) (i : Nat) (r : Fo × Nat × Int) : Prop := b < 0 ∧ i ≤ r.2.1 ∧ wok r.1 ∧ match t with
  | .kind => ∃ h k, r.1 = .one h k ∧ ∀ u, node h k.len (tri k).2.1 (tri k).2.2 = (0, u) → u.right = true ∧ i + u.tks.length ≤ r.2.1
  | .recL _ => ∀ ns ps, (tri r.1).2.1 = (0, ns, ps) → ns.length = ps.length ∧ (∀ n ∈ ns, nmB n = true) ∧ (∀ p ∈ ps, p.right = true) ∧ i + sumK ps + 3 * ps.length ≤ r.2.1 + min 1 ps.length
  | .fnL _ => ∀ ps, (tri r.1).2.2 = (0, ps) → (∀ p ∈ ps, p.right = true) ∧ i + sumK ps + ps.length ≤ r.2.1 + min 1 ps.length
theorem par_plain {h : Hd} {k : Int} {b : Int} {i : Nat} (hb : b < 0) (hw : h.word = e0) (hk : k = 0 ∨ k = 1 ∨ k = 2) (hn : node h 0 (tri .nil).2.1 (tri .nil).2.2 = (0, .mk k [] [])) : ParQ l .kind b i (.one h .nil, i + 1, b) := by
  refine ⟨hb, by simp only; omega, ⟨.inl hw, trivial, trivial⟩, h, .nil, rfl, fun u e => ?_⟩
  rw [show Fo.nil.len = 0 from rfl, hn] at e
  simp only [Prod.mk.injEq, true_and] at e
  rw [← e]
  exact ⟨(tks_plain hk).2, by rw [(tks_plain hk).1]; exact Nat.le_refl _⟩
theorem par_ok (hN : ∀ t ∈ l, t.kind = 1 → nmB t.text = true) : ∀ (f : Nat) (t : TT) (b : Int) (i : Nat) (r : Fo × Nat × Int), tyM l f t b i = some r → r.2.2 < 0 → ParQ l t b i r := by
  have hW : ∀ i, kindAt l i = 1 → nmB (textAt l i) = true := fun i h => by
    unfold kindAt at h
    unfold textAt
    cases e : l[i]? with
    | none => rw [e] at h; simp at h
    | some t =>
      rw [e] at h
      exact hN t (List.mem_of_getElem? e) (by simpa using h)
  intro f
  induction f with
  | zero => intro t b i r h; rw [tyM] at h; cases h
  | succ f ih =>
    intro t b i r h hr
    cases t with
    | kind =>
      rw [tyM] at h
      split at h
      · injection h with h; subst h; simp only at hr; omega
      rename_i hb
      split at h
      · injection h with h; subst h; exact par_plain (by omega) rfl (.inr (.inl rfl)) rfl
      split at h
      · injection h with h; subst h; exact par_plain (by omega) rfl (.inr (.inr rfl)) rfl
      split at h
      · injection h with h; subst h; exact par_plain (by omega) rfl (.inl rfl) rfl
      split at h
      · obtain ⟨x, hx, h⟩ := Option.bind_eq_some_iff.1 h
        simp only [Option.some.injEq] at h
        subst h
        obtain ⟨g1, _, g3⟩ := want_ok hr
        obtain ⟨_, q2, q3, q4⟩ := ih _ _ _ _ hx g1
        simp only [g3]
        refine ⟨by omega, by simp only; omega, ⟨.inl rfl, q3, trivial⟩, _, x.1, rfl, fun u e => ?_⟩
        unfold node at e
        rw [if_neg (by simp), if_neg (by simp), if_neg (by simp), if_pos rfl] at e
        unfold recEnd at e
        obtain ⟨⟨c, ns, ps⟩, hR⟩ : ∃ R, (tri x.1).2.1 = R := ⟨_, rfl⟩
        rw [hR] at e
        simp only at e
        split at e
        · rename_i hne
          simp only [Prod.mk.injEq] at e
          exact absurd e.1 hne
        · rename_i h0
          obtain rfl : c = 0 := by omega
          split at e
          · simp only [Prod.mk.injEq, true_and] at e
            obtain ⟨k1, k2, k3, k4⟩ := q4 ns ps hR
            obtain ⟨m1, m2⟩ := mkRec_ok k1 k2 k3
            rw [← e]
            exact ⟨m1, by simp only; omega⟩
          · simp only [Prod.mk.injEq] at e
            exact absurd e.1 (by omega)
      · obtain ⟨x, hx, h⟩ := Option.bind_eq_some_iff.1 h
        obtain ⟨t, ht, h⟩ := Option.bind_eq_some_iff.1 h
        simp only [Option.some.injEq] at h
        subst h
        obtain ⟨p1, p2, p3, h', k', p4, p5⟩ := ih _ _ _ _ ht hr
        obtain ⟨a1, _, a3⟩ := want_ok p1
        obtain ⟨b1, _, b3⟩ := want_ok a1
        obtain ⟨_, q2, q3, q4⟩ := ih _ _ _ _ hx b1
        rw [a3, b3] at p2 p5
        simp only at p2 p5 q2
        have hy1 : (wantM l b i kFn).2 < 0 := (want_ok (ih _ _ _ _ hx b1).1).1
        have c3 := (want_ok (ih _ _ _ _ hx b1).1).2.2
        have d3 := (want_ok hy1).2.2
        rw [c3, d3] at q2 q4
        simp only at q2 q4
        refine ⟨by omega, by simp only; omega, ⟨.inl rfl, wok_app q3 p3, trivial⟩, _, _, rfl, fun u e => ?_⟩
        unfold node at e
        rw [if_neg (by simp), if_neg (by simp), if_neg (by simp), if_neg (by simp), if_pos rfl] at e
        split at e
        · simp only [Prod.mk.injEq] at e
          exact absurd e.1 (by omega)
        split at e
        · rename_i hne
          simp only [Prod.mk.injEq] at e
          exact absurd e.1 hne
        · rename_i h0
          simp only [Prod.mk.injEq, true_and] at e
          obtain ⟨ts, us, t1, t2, t3⟩ := tri_app_inv (a := x.1) (b := t.1) (ps := (tri (x.1.app t.1)).2.2.2) (Prod.ext (by omega) rfl)
          rw [p4, Fo.one] at t2
          obtain ⟨v, vs, v1, v2, v3⟩ := tri_fn_inv t2
          obtain rfl : vs = [] := by rw [tri] at v2; simp only [Prod.mk.injEq, true_and] at v2; exact v2.symm
          subst v3
          rw [t3] at e
          rw [← e]
          obtain ⟨m1, m2⟩ := q4 ts t1
          obtain ⟨n1, n2⟩ := p5 v v1
          refine ⟨right_mk (by unfold ownB; simp) fun p hp => ?_, ?_⟩
          · rcases List.mem_append.1 hp with hp | hp
            · exact m1 p hp
            · rw [List.mem_singleton.1 hp]; exact n1
          · have := tks_fn ts v
            simp only
            omega
    | recL first =>
      rw [tyM] at h
      split at h
      · obtain ⟨t, ht, h⟩ := Option.bind_eq_some_iff.1 h
        have main : t.2.2 < 0 → i + 2 ≤ t.2.1 ∧ wok t.1 ∧ nmB (textAt l i) = true ∧ (wordM l b ⟨33, i, 0, e0, 0⟩ i).1.word = textAt l i ∧ b < 0 ∧ ∃ h' k', t.1 = .one h' k' ∧ ∀ u, node h' k'.len (tri k').2.1 (tri k').2.2 = (0, u) → u.right = true ∧ i + 2 + u.tks.length ≤ t.2.1 := fun hlt => by
          obtain ⟨p1, p2, p3, h', k', p4, p5⟩ := ih _ _ _ _ ht hlt
          obtain ⟨a1, _, a3⟩ := want_ok p1
          obtain ⟨b1, b2, b3⟩ := word_ok a1
          rw [a3, b3] at p2 p5
          simp only at p2 p5
          exact ⟨p2, p3, hW _ b2, by rw [b3], b1, h', k', p4, fun u e => p5 u e⟩
        split at h
        · simp only [Option.some.injEq] at h
          subst h
          obtain ⟨m1, m2, m3, m4, m5, h', k', m6, m7⟩ := main hr
          refine ⟨m5, by simp only; omega, ⟨.inr (by simp only; rw [m4]; exact m3), m2, trivial⟩, fun ns ps e => ?_⟩
          simp only [Fo.one] at e
          obtain ⟨u, ns', ps', e1, e2, rfl, rfl⟩ := tri_rec_inv e
          rw [tri] at e2
          simp only [Prod.mk.injEq, true_and] at e2
          obtain ⟨rfl, rfl⟩ := e2
          rw [m6, tri_one] at e1
          obtain ⟨n1, n2⟩ := m7 u e1
          refine ⟨rfl, fun n hn => ?_, fun p hp => ?_, ?_⟩
          · rw [List.mem_singleton.1 hn]; simp only; rw [m4]; exact m3
          · rw [List.mem_singleton.1 hp]; exact n1
          · rw [sumK_cons]
            simp only [List.length_cons, List.length_nil, show sumK [] = 0 from rfl]
            omega
        · obtain ⟨q, hq, h⟩ := Option.map_eq_some_iff.1 h
          subst h
          simp only at hr
          obtain ⟨q1, q2, q3, q4⟩ := ih _ _ _ _ hq hr
          obtain ⟨a1, _, a3⟩ := want_ok q1
          obtain ⟨m1, m2, m3, m4, m5, h', k', m6, m7⟩ := main a1
          rw [a3] at q2 q4
          simp only at q2 q4
          refine ⟨m5, by simp only; omega, ⟨.inr (by simp only; rw [m4]; exact m3), m2, q3⟩, fun ns ps e => ?_⟩
          simp only [Fo.one, Fo.app] at e
          obtain ⟨u, ns', ps', e1, e2, rfl, rfl⟩ := tri_rec_inv e
          rw [m6, tri_one] at e1
          obtain ⟨n1, n2⟩ := m7 u e1
          obtain ⟨r1, r2, r3, r4⟩ := q4 ns' ps' e2
          refine ⟨by simp only [List.length_cons, r1], fun n hn => ?_, fun p hp => ?_, ?_⟩
          · rcases List.mem_cons.1 hn with rfl | hn
            · simp only; rw [m4]; exact m3
            · exact r2 n hn
          · rcases List.mem_cons.1 hp with rfl | hp
            · exact n1
            · exact r3 p hp
          · rw [sumK_cons]
            simp only [List.length_cons]
            omega
      · simp only [Option.some.injEq] at h
        subst h
        refine ⟨hr, Nat.le_refl _, trivial, fun ns ps e => ?_⟩
        rw [tri] at e
        simp only [Prod.mk.injEq, true_and] at e
        obtain ⟨rfl, rfl⟩ := e
        exact ⟨rfl, (fun n hn => nomatch hn), (fun p hp => nomatch hp), by simp [sumK]⟩
    | fnL first =>
      rw [tyM] at h
      split at h
      · obtain ⟨t, ht, h⟩ := Option.bind_eq_some_iff.1 h
        have main := ih _ _ _ _ ht
        split at h
        · simp only [Option.some.injEq] at h
          subst h
          obtain ⟨m1, m2, m3, h', k', m6, m7⟩ := main hr
          refine ⟨m1, m2, m3, fun ps e => ?_⟩
          simp only at e
          rw [m6, Fo.one] at e
          obtain ⟨u, ps', e1, e2, rfl⟩ := tri_fn_inv e
          rw [tri] at e2
          simp only [Prod.mk.injEq, true_and] at e2
          subst e2
          obtain ⟨n1, n2⟩ := m7 u e1
          refine ⟨fun p hp => ?_, ?_⟩
          · rw [List.mem_singleton.1 hp]; exact n1
          · rw [sumK_cons]
            simp only [List.length_cons, List.length_nil, show sumK [] = 0 from rfl]
            omega
        · obtain ⟨q, hq, h⟩ := Option.map_eq_some_iff.1 h
          subst h
          simp only at hr
          obtain ⟨q1, q2, q3, q4⟩ := ih _ _ _ _ hq hr
          obtain ⟨a1, _, a3⟩ := want_ok q1
          obtain ⟨m1, m2, m3, h', k', m6, m7⟩ := main a1
          rw [a3] at q2 q4
          simp only at q2 q4
          refine ⟨m1, by simp only; omega, wok_app m3 q3, fun ps e => ?_⟩
          simp only at e
          rw [m6, Fo.one, Fo.app, Fo.app] at e
          obtain ⟨u, ps', e1, e2, rfl⟩ := tri_fn_inv e
          obtain ⟨n1, n2⟩ := m7 u e1
          obtain ⟨r3, r4⟩ := q4 ps' e2
          refine ⟨fun p hp => ?_, ?_⟩
          · rcases List.mem_cons.1 hp with rfl | hp
            · exact n1
            · exact r3 p hp
          · rw [sumK_cons]
            simp only [List.length_cons]
            omega
      · simp only [Option.some.injEq] at h
        subst h
        refine ⟨hr, Nat.le_refl _, trivial, fun ps e => ?_⟩
        rw [tri] at e
        simp only [Prod.mk.injEq, true_and] at e
        subst e
        exact ⟨(fun p hp => nomatch hp), by simp [sumK]⟩
/-- The words among a text's tokens are names. -/
theorem lexR_names {s : ByteArray} (h : lexR s = .good l) : ∀ t ∈ l, t.kind = 1 → nmB t.text = true := by
  have F := lexR_ok h
  intro t ht hk
  obtain ⟨i, hi, rfl⟩ := List.getElem_of_mem ht
  have hi2 : i + 1 < l.length := by
    rcases Nat.lt_or_ge (i + 1) l.length with h' | h'
    · exact h'
    · have := (F.fin i hi (by omega)).1
      omega
  obtain ⟨h1, _⟩ := F.one i hi2
  rw [hk, txt_eq hi] at h1
  unfold nmB
  generalize l[i].text.data.toList = x at *
  unfold firstL at h1
  split at h1
  · simp only [Prod.mk.injEq] at h1; omega
  rename_i hne
  split at h1
  · rename_i hlet
    unfold wordL at h1
    split at h1
    · simp only [Prod.mk.injEq] at h1; omega
    split at h1
    · simp only [Prod.mk.injEq] at h1; omega
    · rename_i hkey hlen
      simp only [Prod.mk.injEq, true_and, and_true] at h1
      rw [h1, List.take_length] at hkey
      unfold nameL
      rw [h1] at hlen ⊢
      simp only [hlet, decide_true, Bool.and_true, Bool.and_eq_true, decide_eq_true_eq, Bool.not_eq_true']
      exact ⟨⟨hne, by omega⟩, by simpa using hkey⟩
  · split at h1
    · unfold numL at h1
      split at h1 <;> (simp only [Prod.mk.injEq] at h1; omega)
    · split at h1
      · unfold quotL at h1
        split at h1 <;> (simp only [Prod.mk.injEq] at h1; omega)
      · unfold signL at h1
        split at h1
        · simp only [Prod.mk.injEq] at h1; omega
        · split at h1 <;> (simp only [Prod.mk.injEq] at h1; omega)
/-- What parsing any text wants, and what comes of it. -/
theorem typeM_ok {s : ByteArray} {h : Hd} {k : Fo} (e : typeM s = .ok h k) : fok (.cons h k .nil) ∧ ∀ u, node h k.len (tri k).2.1 (tri k).2.2 = (0, u) → u.right = true ∧ u.tks.length + 1 ≤ 4000 := by
  unfold typeM at e
  split at e
  · cases e
  rename_i l hl
  have W := (lexR_wf hl (lexR_len hl)).1
  obtain ⟨r, hr, hlt⟩ := ty_some W
  unfold ptypeM at e
  rw [hr] at e
  simp only at e
  unfold wholeM at e
  split at e
  · rename_i e'
    split at e'
    · cases e'
    rename_i hneg
    split at e'
    · cases e'
    obtain ⟨_, h2, h3, h', k', h4, h5⟩ := par_ok (lexR_names hl) _ _ _ _ _ hr (by omega)
    have hw := ty_wide' hr
    have hlen := lexR_len hl
    have hlt' := hlt (by omega)
    rw [h4] at e' h3 hw
    simp only [Fo.one] at e'
    split at e'
    · cases e'
    · simp only [Out.ok.injEq] at e'
      simp only [TypR.ok.injEq] at e
      obtain ⟨rfl, rfl⟩ := e
      obtain ⟨rfl, rfl⟩ := e'
      have hw2 := hw.2
      rw [Fo.one] at hw2
      refine ⟨fok_of _ h3 (by omega), fun u hu => ?_⟩
      obtain ⟨a, b⟩ := h5 u hu
      exact ⟨a, by omega⟩
  · cases e
theorem typeM_bad {s : ByteArray} {er : Int} (e : typeM s = .bad er) : er ≠ 0 := by
  unfold typeM at e
  split at e
  · rename_i a b hl
    simp only [TypR.bad.injEq] at e
    rw [← e]
    exact lexR_bad hl
  rename_i l hl
  have W := (lexR_wf hl (lexR_len hl)).1
  obtain ⟨r, hr, hlt⟩ := ty_some W
  unfold ptypeM at e
  rw [hr] at e
  simp only at e
  unfold wholeM at e
  split at e
  · cases e
  · rename_i er' a' e'
    simp only [TypR.bad.injEq] at e
    rw [← e]
    split at e'
    · simp only [Out.bad.injEq] at e' <;> omega
    rename_i hneg
    split at e'
    · simp only [Out.bad.injEq] at e' <;> omega
    obtain ⟨_, h2, h3, h', k', h4, h5⟩ := par_ok (lexR_names hl) _ _ _ _ _ hr (by omega)
    rw [h4] at e'
    simp only [Fo.one] at e'
    split at e'
    · simp only [Out.bad.injEq] at e' <;> omega
    · cases e'
theorem node_bad {h : Hd} {n : Nat} {R : Int × List ByteArray × List Ty} {F : Int × List Ty} (hz : (node h n R F).1 ≠ 0) : (node h n R F).2 = dyn := by
  unfold node recEnd at *
  split
  · rename_i h1; rw [if_pos h1] at hz <;> exact absurd rfl hz
  rename_i h1
  rw [if_neg h1] at hz
  split
  · rename_i h2; rw [if_pos h2] at hz; exact absurd rfl hz
  rename_i h2
  rw [if_neg h2] at hz
  split
  · rename_i h3; rw [if_pos h3] at hz; exact absurd rfl hz
  rename_i h3
  rw [if_neg h3] at hz
  split
  · rename_i h4
    rw [if_pos h4] at hz
    split
    · rfl
    rename_i h5
    rw [if_neg h5] at hz
    split
    · rename_i h6; rw [if_pos h6] at hz; exact absurd rfl hz
    · rfl
  rename_i h4
  rw [if_neg h4] at hz
  split
  · rename_i h5
    rw [if_pos h5] at hz
    split
    · rfl
    rename_i h6
    rw [if_neg h6] at hz
    split
    · rfl
    rename_i h7
    rw [if_neg h7] at hz
    exact absurd rfl hz
  · rfl
theorem typeM_cnt {s : ByteArray} {h : Hd} {k : Fo} (e : typeM s = .ok h k) : (node h k.len (tri k).2.1 (tri k).2.2).2.cnt ≤ 1000001 := by
  by_cases hz : (node h k.len (tri k).2.1 (tri k).2.2).1 = 0
  · obtain ⟨h1, h2⟩ := (typeM_ok e).2 (node h k.len (tri k).2.1 (tri k).2.2).2 (Prod.ext hz rfl)
    have := cnt_tks _ h1
    omega
  · rw [node_bad hz]
    simp [dyn, Ty.cnt, cntL]
/-- What is parsed may be, isn't too deep, and its text is parsed as the same, unless too long. -/
theorem parse_good {s : ByteArray} {u : Ty} (e : parseT s = (0, u)) : u.right = true ∧ u.depth ≤ 12 ∧ u.tks.length + 1 ≤ 4000 ∧ u.cnt ≤ 8000 := by
  unfold parseT at e
  split at e
  · rename_i er hx
    simp only [Prod.mk.injEq] at e
    exact absurd e.1 (typeM_bad hx)
  · rename_i h k hx
    unfold ofEnd at e
    split at e
    · simp only [Prod.mk.injEq] at e
      exact absurd e.1 (by omega)
    · rename_i hd
      obtain ⟨h1, h2⟩ := (typeM_ok hx).2 u e
      rw [e] at hd
      have := cnt_tks _ h1
      refine ⟨h1, ?_, h2, by omega⟩
      rcases Nat.lt_or_ge 12 u.depth with h' | h'
      · exact absurd ⟨rfl, by simp only; omega⟩ hd
      · exact h'
theorem parse_again {t : Ty} {s : ByteArray} (hr : t.right = true) (hd : t.depth ≤ 12) (hs : s.data.toList = t.text) (hz : s.size ≤ 4000) : parseT s = (0, t) := by
  refine parse_back hr hd hs (by omega) ?_
  obtain ⟨h1, h2⟩ := tks_text t hr
  have h3 : s.size = t.text.length := by rw [← hs]; simp
  omega
end Tm
end Go.Proofs.YtifkjngclkklfaaGreatDoor
/- Contracts: term.Parse, any text; how long a type's text is, by its tokens. -/
namespace Go.Proofs.YtifkjngclkklfaaGreatDoor
open Go.RowKit Go.Op
namespace Tm
open Ps Pg
theorem tparse_all (s : ByteArray) (hs : (s.size : Int) ≤ 9223372036854775807) (w : World) (hT : Tabs w) (hE : Errs w) : Calls Tryz.prog 29 #[.string s] w (ToldQ (parseT s) w) :=
  tparse_any s hs w hT hE (fun _ e => typeM_bad e) fun h k e => ⟨fun w' P' A cap hk => told_any (.cons h k .nil) (typeM_ok e).1 0 h k .nil (by rw [Fo.drop]) w' P' A cap hk, typeM_cnt e⟩
theorem sum_text {n : Nat} : ∀ {ps : List Ty}, (∀ p ∈ ps, p.text.length ≤ n * p.tks.length) → ((textL ps).map List.length).sum ≤ n * sumK ps
  | [], _ => by rw [textL]; exact Nat.zero_le _
  | p :: ps, h => by
    have h1 := h p List.mem_cons_self
    have h2 := sum_text (n := n) (ps := ps) fun q hq => h q (List.mem_cons_of_mem _ hq)
    rw [sumK_cons, textL, List.map_cons, List.sum_cons, Nat.mul_add]
    omega
theorem recB_most : ∀ {ns : List ByteArray} {ps : List Ty}, ns.length = ps.length → (∀ n ∈ ns, nmB n = true) → ((recB ns (textL ps)).map List.length).sum ≤ ((textL ps).map List.length).sum + 42 * ps.length
  | [], [], _, _ => by simp [textL, recB]
  | n :: ns, p :: ps, h, hn => by
    have h1 := recB_most (ns := ns) (ps := ps) (by simpa using h) fun m hm => hn m (List.mem_cons_of_mem _ hm)
    have h3 : n.data.toList.length ≤ 40 := nm_size (hn n List.mem_cons_self)
    rw [textL, recB, List.map_cons, List.sum_cons, List.map_cons, List.sum_cons]
    have e1 : (n.data.toList ++ [58, 32] ++ p.text).length = n.data.toList.length + 2 + p.text.length := by simp only [List.length_append, List.length_cons, List.length_nil]
    have e2 : (p :: ps).length = ps.length + 1 := rfl
    rw [e1, e2]
    omega
  | [], _ :: _, h, _ => by simp at h
  | _ :: _, [], h, _ => by simp at h
theorem text_le : ∀ t : Ty, t.right = true → t.text.length ≤ 44 * t.tks.length := by
  refine Ty.ind fun k ns ps ih hr => ?_
  have hpr := sum_text (n := 44) (ps := ps) fun p hp => ih p hp (right_part hr hp)
  rcases right_cases hr with ⟨hk, rfl, rfl⟩ | ⟨rfl, hl, hnm, hrise⟩ | ⟨rfl, rfl, hpos⟩
  · rw [(tks_plain hk).1]
    have : (Ty.mk k [] []).text = plainB k := by rw [Ty.text, if_neg (by omega), if_neg (by omega)]
    rw [this]
    unfold plainB
    split
    · simp
    · split <;> simp
  · have h := tks_rec hl
    rw [List.all_eq_true] at hnm
    have h1 := recB_most hl hnm
    have h2 := (recB_sum3 hl hnm).2
    have h3 := joinB_len2 (recB ns (textL ps))
    have h4 : (Ty.mk 3 ns ps).text.length = 2 + (joinB (recB ns (textL ps))).length := by
      rw [Ty.text, if_pos rfl]
      simp only [List.length_append, List.length_cons, List.length_nil]
      omega
    rw [h2] at h3
    by_cases hz : ps.length = 0
    · have hm : min 1 ps.length = 0 := by omega
      have hk0 : sumK ps = 0 := by rw [List.eq_nil_of_length_eq_zero hz]; rfl
      rw [hm] at h h3
      omega
    · have hm : min 1 ps.length = 1 := by omega
      rw [hm] at h h3
      omega
  · obtain ⟨qs, q, rfl⟩ : ∃ qs q, ps = qs ++ [q] := ⟨ps.dropLast, ps.getLast (List.ne_nil_of_length_pos hpos), (List.dropLast_concat_getLast _).symm⟩
    have h := tks_fn qs q
    have ex : (Ty.mk 4 [] (qs ++ [q])).text = [102, 110, 40] ++ joinB (textL qs) ++ [41, 58, 32] ++ q.text := by
      rw [Ty.text, if_neg (by omega), if_pos rfl, textL_map, textL_map, List.map_append, List.length_append]
      simp
    have hq := ih q (List.mem_append_right _ (List.mem_singleton.2 rfl)) (right_part hr (List.mem_append_right _ (List.mem_singleton.2 rfl)))
    have hqs := sum_text (n := 44) (ps := qs) fun p hp => ih p (List.mem_append_left _ hp) (right_part hr (List.mem_append_left _ hp))
    have h3 := joinB_len2 (textL qs)
    have h5 : (textL qs).length = qs.length := by rw [textL_map, List.length_map]
    rw [ex]
    simp only [List.length_append, List.length_cons, List.length_nil]
    rw [h5] at h3
    by_cases hz : qs.length = 0
    · have hm : min 1 qs.length = 0 := by omega
      rw [hm] at h h3
      omega
    · have hm : min 1 qs.length = 1 := by omega
      rw [hm] at h h3
      omega
theorem tks_cnt : ∀ t : Ty, t.right = true → t.tks.length + 2 ≤ 6 * t.cnt := by
  have sum : ∀ {ps : List Ty}, (∀ p ∈ ps, p.tks.length + 2 ≤ 6 * p.cnt) → sumK ps + 2 * ps.length ≤ 6 * cntL ps := fun {ps} => by
    induction ps with
    | nil => intro _; rw [cntL]; exact Nat.le_refl _
    | cons p ps ih =>
      intro h
      have h1 := h p List.mem_cons_self
      have h2 := ih fun q hq => h q (List.mem_cons_of_mem _ hq)
      have e2 : (p :: ps).length = ps.length + 1 := rfl
      rw [sumK_cons, cntL, e2]
      omega
  refine Ty.ind fun k ns ps ih hr => ?_
  have hpr := sum (ps := ps) fun p hp => ih p hp (right_part hr hp)
  rcases right_cases hr with ⟨hk, rfl, rfl⟩ | ⟨rfl, hl, hnm, hrise⟩ | ⟨rfl, rfl, hpos⟩
  · rw [(tks_plain hk).1, Ty.cnt, cntL]
    simp
  · have h := tks_rec hl
    rw [Ty.cnt]
    omega
  · obtain ⟨qs, q, rfl⟩ : ∃ qs q, ps = qs ++ [q] := ⟨ps.dropLast, ps.getLast (List.ne_nil_of_length_pos hpos), (List.dropLast_concat_getLast _).symm⟩
    have h := tks_fn qs q
    have h0 : sumK [] = 0 := rfl
    have e2 : (qs ++ [q]).length = qs.length + 1 := by simp
    rw [sumK_app, sumK_cons, e2] at hpr
    rw [Ty.cnt]
    omega
/-- The text of a type that may be is short enough, wherever the type lies in memory. -/
theorem text_lim {t : Ty} (hr : t.right = true) (hc : t.cnt ≤ 41000) : t.text.length ≤ lim := by
  have h1 := text_le t hr
  have h2 := tks_cnt t hr
  unfold lim
  omega
end Tm
end Go.Proofs.YtifkjngclkklfaaGreatDoor
