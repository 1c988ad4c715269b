/- Contracts: the closures of edit.Compose. -/
import Derived.Test.YtendbkbjmibchaaCP
namespace Go.Proofs.Ytendbkbjmibchaa
open Go.RowKit

/-- Compose's variables lie in the blocks ob, ob+1, ob+2, ob+3; what they own lies behind. -/
structure CV (ob : Nat) (s : CSt) (vo vp : Value) (w : World) : Prop where
  bo : RowB w ob 53 #[vo]
  oo : w.ownsRow (ob + 4) 68 3 vo s.o.length (ecs s.o)
  bp : RowB w (ob + 1) 74 #[vp]
  op : w.ownsRow (ob + 4) 5 1 vp s.u.size (Lib.strCells s.u)
  bd : RowB w (ob + 2) 3 #[.int .i64 s.d]
  bu : RowB w (ob + 3) 88 #[.func (.func 52) #[] #[.pointer (some ⟨ob + 2, 0, none⟩), .pointer (some ⟨ob + 1, 0, none⟩), .pointer (some ⟨ob, 0, none⟩)]]
/-- The blocks that are Compose's own. -/
def CD (ob : Nat) (vo vp : Value) (k : Nat) : Prop := k = ob ∨ k = ob + 1 ∨ k = ob + 2 ∨ k = ob + 3 ∨ vo.ownBlock = some k ∨ vp.ownBlock = some k
def CI (ob : Nat) (ps : List Pc) (D : Nat → Prop) (w : World) : Prop := ∃ vo vp, CV ob (cst ps) vo vp w ∧ D = CD ob vo vp

theorem own_same {w w' : World} {base e sz n : Nat} {v : Value} {xs : List Value} (h : w.ownsRow base e sz v n xs) (hb : ∀ k, v.ownBlock = some k → k < w.heap.size → w'.heap[k]? = w.heap[k]?) : w'.ownsRow base e sz v n xs := by
  refine ⟨h.1, ?_⟩
  rcases h.2 with hx | ⟨g, cap, cur, hv, hg, hh, r⟩
  · exact .inl hx
  · exact .inr ⟨g, cap, cur, hv, hg, (hb g (by rw [hv]; rfl) (h.lt g (by rw [hv]; rfl)).2).trans hh, r⟩
theorem CV.same {ob : Nat} {s : CSt} {vo vp : Value} {w w' : World} (h : CV ob s vo vp w) (hb : ∀ k, k < w.heap.size → CD ob vo vp k → w'.heap[k]? = w.heap[k]?) : CV ob s vo vp w' where
  bo := (hb ob h.bo.lt (.inl rfl)).trans h.bo
  oo := own_same h.oo (fun k hk hl => hb k hl (.inr (.inr (.inr (.inr (.inl hk))))))
  bp := (hb _ h.bp.lt (.inr (.inl rfl))).trans h.bp
  op := own_same h.op (fun k hk hl => hb k hl (.inr (.inr (.inr (.inr (.inr hk))))))
  bd := (hb _ h.bd.lt (.inr (.inr (.inl rfl)))).trans h.bd
  bu := (hb _ h.bu.lt (.inr (.inr (.inr (.inl rfl))))).trans h.bu
theorem CV.dom {ob : Nat} {s : CSt} {vo vp : Value} {w : World} (h : CV ob s vo vp w) {k : Nat} (hk : CD ob vo vp k) : k < w.heap.size := by
  have h0 := h.bo.lt
  have h1 := h.bp.lt
  have h2 := h.bd.lt
  have h3 := h.bu.lt
  rcases hk with rfl | rfl | rfl | rfl | hk | hk
  · exact h0
  · exact h1
  · exact h2
  · exact h3
  · exact (h.oo.lt k hk).2
  · exact (h.op.lt k hk).2
/-- The two rows never lie in one block. -/
theorem CV.apart {ob : Nat} {s : CSt} {vo vp : Value} {w : World} (h : CV ob s vo vp w) {k : Nat} (h1 : vo.ownBlock = some k) : vp.ownBlock ≠ some k := fun h2 => by
  rcases h.oo.2 with ⟨rfl, _⟩ | ⟨g, cap, cur, rfl, _, hh, _⟩
  · simp [Value.ownBlock] at h1
  · rcases h.op.2 with ⟨rfl, _⟩ | ⟨g', cap', cur', rfl, _, hh', _⟩
    · simp [Value.ownBlock] at h2
    · simp only [Value.ownBlock, Option.some.injEq] at h1 h2
      subst h1 h2
      rw [hh] at hh'
      injection hh' with hh'
      injection hh' with _ hh' _
      exact absurd hh' (by decide)

theorem own_len (A : Option Addr) (n n' c c' : Nat) : (Value.slice A n c).ownBlock = (Value.slice A n' c').ownBlock := by
  cases A <;> rfl
/-- put is emptied. -/
theorem CV.cut {ob n cp : Nat} {s : CSt} {vo : Value} {Ap : Option Addr} {w : World} (h : CV ob s vo (.slice Ap n cp) w) (hn : n = s.u.size) :
    CV ob ⟨s.o, s.d, ⟨#[]⟩⟩ vo (.slice Ap 0 cp) (w.setCell ⟨ob + 1, 0, none⟩ (.slice Ap 0 cp)) ∧ Below ob w (w.setCell ⟨ob + 1, 0, none⟩ (.slice Ap 0 cp)) ∧
      Kept (CD ob vo (.slice Ap n cp)) (CD ob vo (.slice Ap 0 cp)) w (w.setCell ⟨ob + 1, 0, none⟩ (.slice Ap 0 cp)) := by
  have hf : ∀ k, k ≠ ob + 1 → (w.setCell ⟨ob + 1, 0, none⟩ (.slice Ap 0 cp)).heap[k]? = w.heap[k]? := fun k hk => Below.heap_setCell _ _ _ _ hk
  subst hn
  refine ⟨⟨h.bo.far (by simp) _, own_same h.oo (fun k hk _ => hf k (by have := (h.oo.lt k hk).1; omega)), h.bp.put 0 _, ?_, h.bd.far (by simp) _, h.bu.far (by simp) _⟩, (Below.refl _ _).setCell (p := ⟨ob + 1, 0, none⟩) (by simp) _, ⟨by simp [World.setCell], fun k _ hd => ⟨hf k (fun e => hd (.inr (.inl e))), ?_⟩⟩⟩
  · exact own_same (own_none h.op) (fun k hk _ => hf k (by have := (h.op.lt k (by rw [← hk]; exact own_len _ _ _ _ _)).1; omega))
  · intro e
    unfold CD at e hd
    rw [own_len Ap 0 s.u.size cp cp] at e
    exact hd e
/-- out is appended to. -/
theorem CV.more {ob : Nat} {s : CSt} {vo vp vo' : Value} {w wa w1 : World} {E : Ed} (h : CV ob s vo vp w) (hal : Below w.heap.size w wa) (hsz : w.heap.size ≤ wa.heap.size)
    (hown : w1.ownsRow (ob + 4) 68 3 vo' (s.o.length + 1) (ecs (s.o ++ [E]))) (hg : wa.grownBy w1 vo.ownBlock) (hat : ∀ k, vo'.ownBlock = some k → vo.ownBlock = some k ∨ w.heap.size ≤ k) :
    CV ob ⟨s.o ++ [E], s.d, s.u⟩ vo' vp (w1.setCell ⟨ob, 0, none⟩ vo') ∧ Below ob w (w1.setCell ⟨ob, 0, none⟩ vo') ∧ Kept (CD ob vo vp) (CD ob vo' vp) w (w1.setCell ⟨ob, 0, none⟩ vo') ∧ w1.frozen? ⟨ob, 0, none⟩ = false ∧ w1.cell? ⟨ob, 0, none⟩ = some vo ∧
      (w1.setCell ⟨ob, 0, none⟩ vo').cell? ⟨ob + 1, 0, none⟩ = some vp ∧ (w1.setCell ⟨ob, 0, none⟩ vo').frozen? ⟨ob + 1, 0, none⟩ = false := by
  have hw1 : ∀ k, k < w.heap.size → vo.ownBlock ≠ some k → w1.heap[k]? = w.heap[k]? := fun k hk hne => (hg.block k (by omega) (fun e => hne e.symm)).trans (hal.block k hk)
  have hlow : ∀ k, k < ob + 4 → vo.ownBlock ≠ some k := fun k hk e => by have := (h.oo.lt k e).1; omega
  have hbo : RowB w1 ob 53 #[vo] := (hw1 ob h.bo.lt (hlow _ (by omega))).trans h.bo
  have hbp : RowB w1 (ob + 1) 74 #[vp] := (hw1 _ h.bp.lt (hlow _ (by omega))).trans h.bp
  have hbd : RowB w1 (ob + 2) 3 #[.int .i64 s.d] := (hw1 _ h.bd.lt (hlow _ (by omega))).trans h.bd
  have hbu := (hw1 _ h.bu.lt (hlow _ (by omega))).trans h.bu
  have hop : w1.ownsRow (ob + 4) 5 1 vp s.u.size (Lib.strCells s.u) := own_same h.op (fun k hk hl => hw1 k hl (fun e => h.apart e hk))
  have hf : ∀ k, k ≠ ob → (w1.setCell ⟨ob, 0, none⟩ vo').heap[k]? = w1.heap[k]? := fun k hk => Below.heap_setCell _ _ _ _ hk
  have hs1 := hg.size
  have hbp' : RowB (w1.setCell ⟨ob, 0, none⟩ vo') (ob + 1) 74 #[vp] := hbp.far (by simp) _
  refine ⟨⟨hbo.put 0 _, ?_, hbp', own_same hop (fun k hk _ => hf k (by have := (hop.lt k hk).1; omega)), hbd.far (by simp) _, RowB.far hbu (by simp) _⟩, ?_, ⟨by simp [World.setCell]; omega, fun k hk hd => ⟨?_, ?_⟩⟩, hbo.thaw 0, hbo.cell 0, hbp'.cell 0, hbp'.thaw 0⟩
  · have := own_same hown (w' := w1.setCell ⟨ob, 0, none⟩ vo') (fun k hk _ => hf k (by have := (hown.lt k hk).1; omega))
    rw [List.length_append]
    exact this
  · refine ((hal.mono (Nat.le_of_lt h.bo.lt)).grown hg (by have := h.bo.lt; omega) (fun k hk => by have := (h.oo.lt k hk).1; omega)).setCell (p := ⟨ob, 0, none⟩) (by simp) _
  · rw [hf k (fun e => hd (.inl e))]
    exact hw1 k hk (fun e => hd (.inr (.inr (.inr (.inr (.inl e))))))
  · rintro (e | e | e | e | e | e)
    · exact hd (.inl e)
    · exact hd (.inr (.inl e))
    · exact hd (.inr (.inr (.inl e)))
    · exact hd (.inr (.inr (.inr (.inl e))))
    · rcases hat k e with e | e
      · exact hd (.inr (.inr (.inr (.inr (.inl e)))))
      · omega
    · exact hd (.inr (.inr (.inr (.inr (.inr e)))))

set_option maxHeartbeats 4000000 in
set_option maxRecDepth 100000 in
theorem upTo_any (ob : Nat) (s : CSt) (m : Int) (vo vp : Value) (w : World) (h : CV ob s vo vp w) (hl : s.o.length ≤ 1000000) :
    Calls Try.prog 52 #[.int .i64 m, .pointer (some ⟨ob + 2, 0, none⟩), .pointer (some ⟨ob + 1, 0, none⟩), .pointer (some ⟨ob, 0, none⟩)] w fun e w' => e = .returned (.tuple #[]) ∧
      ∃ vo' vp', CV ob (cup s m) vo' vp' w' ∧ Below ob w w' ∧ Kept (CD ob vo vp) (CD ob vo' vp') w w' := by
  obtain ⟨i0, hi, hz0, hz1, hz2⟩ := info_parts info68
  have hcv := conv_own h.op
  have c0 : w.cell? ⟨ob, 0, none⟩ = some vo := h.bo.cell 0
  have c1 : w.cell? ⟨ob + 1, 0, none⟩ = some vp := h.bp.cell 0
  have c2 : w.cell? ⟨ob + 2, 0, none⟩ = some (.int .i64 s.d) := h.bd.cell 0
  have f1 : w.frozen? ⟨ob + 1, 0, none⟩ = false := h.bp.thaw 0
  obtain ⟨Ao, co, rfl⟩ := own_form3 h.oo
  obtain ⟨Ap, cp, rfl⟩ := own_form h.op
  have H := Lib.hid h
  have hlt := h.bu.lt
  clear h
  by_cases hc : s.d < m ∨ s.u.size ≠ 0
  · have E : Hid (cup s m = ⟨s.o ++ [⟨s.d, m, s.u⟩], s.d, ⟨#[]⟩⟩) := by unfold Hid cup; rw [if_pos hc]
    have hml : s.o.length + 1 ≤ maxLen := by unfold maxLen; omega
    have HNB : Hid (∀ o, (w.alloc o).heap[w.heap.size]? = some o) := fun o => heap_alloc_new w o
    by_cases hd : s.d < m
    case' neg =>
      have hd' : decide (s.d < m) = false := by simp; omega
      have hu0 : (0 : Int) < (s.u.size : Int) := by omega
      clear hd
    all_goals
      clear hc
      go_enter Try.func52, Try.ntmps52
      go_wp2_with (at_builtin; refine wpList_append_lies _ rfl (.tmp 13) (.tmp 19) 53 rfl (ob + 4) 68 i0 _ 3 32 Try.underlying53 hi hz0 hz1 hz2 rfl (by omega) (.slice Ao s.o.length co) s.o.length (ecs s.o) rfl (H.out.oo.alloc _) ⟨w.heap.size, 0, none⟩ 1 1 [.int .i64 s.d, .int .i64 m, .string s.u] rfl rfl (World.news_of_block (cs := #[.int .i64 s.d, .int .i64 m, .string s.u]) (t := 68) (fr := (0, 0)) (HNB.out _)) (by simp [Value.oneCell']) (by omega) hml (by omega) (by simp; omega) (w.heap.size + 1) (by simp) ?_)
      intro g cap w1 hown1 hgrow hat hg1
      rw [← ecs_one ⟨s.d, m, s.u⟩, ← ecs_app] at hown1
      obtain ⟨g1, g2, g3, g4, g5, g6, g7⟩ := CV.more H.out ((Below.refl _ _).alloc (Nat.le_refl _) _) (by simp) hown1 hgrow (fun k hk => by
        rcases hat with e | e
        · left; rw [e]; exact hk
        · right; simp [Value.ownBlock] at hk; omega)
      obtain ⟨k1, k2, k3⟩ := g1.cut rfl
      have R1 := Lib.hid k1
      have R2 := Lib.hid (g2.trans k2)
      have R3 := Lib.hid (g3.trans k3)
      clear hown1 hgrow hat g1 g2 g3 k1 k2 k3 c0 c1 c2 f1 hcv
      go_wp2
      go_end0
      exact ⟨rfl, _, _, by rw [E.out]; exact R1.out, R2.out, R3.out⟩
  · have hd : decide (s.d < m) = false := by simp; omega
    have hu0 : s.u.size = 0 := by omega
    have E : Hid (cup s m = ⟨s.o, s.d, ⟨#[]⟩⟩) := by unfold Hid cup; rw [if_neg hc]
    clear hc
    obtain ⟨k1, k2, k3⟩ := H.out.cut rfl
    have R1 := Lib.hid k1
    have R2 := Lib.hid k2
    have R3 := Lib.hid k3
    clear k1 k2 k3
    go_enter Try.func52, Try.ntmps52
    go_wp2_with fail
    go_end0
    exact ⟨rfl, _, _, by rw [E.out]; exact R1.out, R2.out, R3.out⟩
end Go.Proofs.Ytendbkbjmibchaa
