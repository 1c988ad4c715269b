/- Plain mathematics: how many pieces there are behind edits, how many bytes they put in. -/
import Derived.Test.YtendbkbjmibchaaCR
namespace Go.Proofs.Ytendbkbjmibchaa
open Go.RowKit

theorem tb_lv (a b : Int) : tb (lv a b) = 0 := by unfold lv; split <;> rfl
theorem tb_tx (x : ByteArray) : tb (tx_ x) = x.size := by
  unfold tx_
  split
  · rename_i h; rw [h]; rfl
  · simp [tb]
theorem tb_pcs (n : Int) : ∀ (es : List Ed) (a : Int), tb (pcs n a es) = tot es
  | [], a => by rw [pcs, tb_lv]; rfl
  | e :: r, a => by rw [pcs, tb_app, tb_app, tb_lv, tb_tx, tb_pcs n r, tot]; omega
theorem tb_ps : ∀ (l : List Pc) (k : Int), tb (ps1 l k) + tb (ps2 l k) ≤ tb l
  | [], k => by simp [ps1, ps2, tb]
  | p :: r, k => by
    unfold ps1 ps2
    split
    · simp [tb]
    · rename_i hk
      split
      · have := tb_ps r (k - plen p)
        simp only [tb]; omega
      · rename_i hp
        simp only [tb]
        by_cases hx : p.x.size = 0
        · have e1 : (hd p k).x.size = 0 := by unfold hd; rw [if_pos hx]; rfl
          have e2 : (tl p k).x.size = 0 := by unfold tl; rw [if_pos hx]; rfl
          omega
        · obtain ⟨g1, g2, g3, g4⟩ := hd_put hx (by omega : (0 : Int) < k) (by omega)
          omega
theorem tb_both : ∀ (b : List Ed) (q : List Pc) (a : Int), tb (both q a b) ≤ tb q + tot b
  | [], q, a => by simp [both, tot]
  | e :: r, q, a => by
    unfold both
    rw [tb_app, tb_app, tb_tx, tot]
    have h1 := tb_ps q (e.f - a)
    have h2 := tb_ps (ps2 q (e.f - a)) (e.t - e.f)
    have h3 := tb_both r (ps2 (ps2 q (e.f - a)) (e.t - e.f)) e.t
    omega
theorem len_lv (a b : Int) : (lv a b).length ≤ 1 := by unfold lv; split <;> simp
theorem len_tx (x : ByteArray) : (tx_ x).length ≤ 1 := by unfold tx_; split <;> simp
theorem len_pcs (n : Int) : ∀ (es : List Ed) (a : Int), (pcs n a es).length ≤ 2 * es.length + 1
  | [], a => by rw [pcs]; have := len_lv a n; simp; omega
  | e :: r, a => by
    rw [pcs, List.length_append, List.length_append, List.length_cons]
    have := len_lv a e.f
    have := len_tx e.x
    have := len_pcs n r e.t
    omega
theorem len_ps : ∀ (l : List Pc) (k : Int), (ps1 l k).length + (ps2 l k).length ≤ l.length + 1
  | [], k => by simp [ps1, ps2]
  | p :: r, k => by
    unfold ps1 ps2
    split
    · simp
    · split
      · have := len_ps r (k - plen p); simp; omega
      · simp; omega
theorem len_both : ∀ (b : List Ed) (q : List Pc) (a : Int), (both q a b).length ≤ q.length + 2 * b.length
  | [], q, a => by simp [both]
  | e :: r, q, a => by
    unfold both
    rw [List.length_append, List.length_append, List.length_cons]
    have h1 := len_ps q (e.f - a)
    have h2 := len_ps2 (ps2 q (e.f - a)) (e.t - e.f)
    have h3 := len_both r (ps2 (ps2 q (e.f - a)) (e.t - e.f)) e.t
    have h4 := len_tx e.x
    omega
theorem tot_app (a b : List Ed) : tot (a ++ b) = tot a + tot b := by
  induction a with
  | nil => simp [tot]
  | cons e r ih => simp [tot, ih]; omega
theorem tot_cmps (n : Int) : ∀ (l : List Pc) (d : Int) (u : ByteArray), tot (cmps n l d u) ≤ u.size + tb l
  | [], d, u => by unfold cmps; split <;> simp [tot, tb]
  | y :: r, d, u => by
    unfold cmps
    split
    · rename_i hx
      have := tot_cmps n r y.t ⟨#[]⟩
      have h0 : (⟨#[]⟩ : ByteArray).size = 0 := rfl
      rw [tot_app, tb]
      split <;> simp only [tot] <;> omega
    · have := tot_cmps n r d (u ++ y.x)
      rw [cat_size] at this
      rw [tb]; omega
theorem tot_cmpd (a b : List Ed) (n : Int) : tot (cmpd a b n) ≤ tot a + tot b := by
  have h1 := tot_cmps n (both (pcs n 0 a) 0 b) 0 ⟨#[]⟩
  have h2 := tb_both b (pcs n 0 a) 0
  rw [tb_pcs] at h2
  have h0 : (⟨#[]⟩ : ByteArray).size = 0 := rfl
  unfold cmpd
  omega
theorem len_cmpd (a b : List Ed) (n : Int) : (cmpd a b n).length ≤ a.length + b.length + 2 := by
  have h1 := cmps_len n (both (pcs n 0 a) 0 b) 0 ⟨#[]⟩
  have h2 := lefts_both b (pcs n 0 a) 0
  have h3 := lefts_pcs n a 0
  unfold cmpd
  omega
theorem tot_mem : ∀ (es : List Ed) (e : Ed), e ∈ es → e.x.size ≤ tot es
  | [], e, h => by simp at h
  | y :: r, e, h => by
    rw [tot]
    rcases List.mem_cons.1 h with rfl | h
    · omega
    · have := tot_mem r e h; omega
theorem pcs_puts (n : Int) : ∀ (es : List Ed) (a : Int) (p : Pc), p ∈ pcs n a es → p.x.size ≠ 0 → p.f = 0 ∧ p.t = 0 ∧ p.x.size ≤ tot es
  | [], a, p, h, hx => by
    rw [pcs] at h
    unfold lv at h
    split at h
    · simp at h; subst h; exact absurd rfl hx
    · simp at h
  | e :: r, a, p, h, hx => by
    rw [pcs, List.mem_append, List.mem_append] at h
    rw [tot]
    rcases h with (h | h) | h
    · unfold lv at h
      split at h
      · simp at h; subst h; exact absurd rfl hx
      · simp at h
    · unfold tx_ at h
      split at h
      · simp at h
      · simp at h; subst h; exact ⟨rfl, rfl, by simp only; omega⟩
    · have := pcs_puts n r e.t p h hx
      exact ⟨this.1, this.2.1, by omega⟩
theorem pcs_good (n : Int) (es : List Ed) (h0 : 0 ≤ n) (hn : n ≤ 1000000000000000) (hs : snd es n = 0) (ht : tot es ≤ 1000000000000000) : ∀ p ∈ pcs n 0 es, Good p := by
  intro p hp
  by_cases hx : p.x.size = 0
  · obtain ⟨a0, a1, a2⟩ := pcs_in n es none 0 (by omega) h0 (.inl ⟨rfl, rfl⟩) (snd_go hs).2 p hp hx
    exact ⟨a0, a1, by omega, by omega⟩
  · obtain ⟨a0, a1, a2⟩ := pcs_puts n es 0 p hp hx
    exact ⟨by omega, by omega, by omega, by omega⟩
theorem grows_le (n : Int) : ∀ (es : List Ed), (∀ e ∈ es, 0 ≤ e.f ∧ e.f ≤ e.t ∧ e.t ≤ n) → grows es ≤ tot es
  | [], _ => by simp [grows, tot]
  | e :: r, h => by
    have := grows_le n r (fun x hx => h x (by simp [hx]))
    have := h e (by simp)
    rw [grows, tot]; unfold grow; omega
theorem grows_ge (n : Int) : ∀ (es : List Ed), (∀ e ∈ es, 0 ≤ e.f ∧ e.f ≤ e.t ∧ e.t ≤ n) → -(es.length * n) ≤ grows es
  | [], _ => by simp [grows]
  | e :: r, h => by
    have := grows_ge n r (fun x hx => h x (by simp [hx]))
    have := h e (by simp)
    rw [grows, List.length_cons]; unfold grow
    have e1 : ((r.length + 1 : Nat) : Int) * n = r.length * n + n := by
      rw [Int.natCast_add, Int.add_mul]; simp
    omega

theorem cg_all (a b : List Ed) (n : Int) (ha : a.length ≤ 512) (hb : b.length ≤ 512) (ht : tot a + tot b ≤ 140737488355328) : ∀ done p rest, done ++ [p] ++ rest = [] ++ both (pcs n 0 a) 0 b → CG p done := by
  intro done p rest h
  have h1 := len_both b (pcs n 0 a) 0
  have h2 := len_pcs n a 0
  have h3 := tb_both b (pcs n 0 a) 0
  rw [tb_pcs] at h3
  rw [List.nil_append] at h
  rw [← h, tb_app, tb_app] at h3
  rw [← h] at h1
  simp only [tb, List.length_append, List.length_cons, List.length_nil] at h1 h3
  exact ⟨by omega, by omega⟩
end Go.Proofs.Ytendbkbjmibchaa
