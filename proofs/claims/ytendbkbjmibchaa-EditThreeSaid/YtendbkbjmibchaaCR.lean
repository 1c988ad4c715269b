/- append of a string to bytes of the call's own, and where the new row lies; the closure that edit.Compose hands to walkBoth. -/
import Derived.Test.YtendbkbjmibchaaCQ
import Derived.Lib.AppendStr
namespace Go.Proofs.Ytendbkbjmibchaa
open Go.RowKit

theorem append_where {w : World} (base : Nat) (t u ty e : TypeId) (i : TypeInfo) (ht : Try.prog.underlying t = some (.slice e)) (hu : Try.prog.underlying u = some .string) (hi : Try.prog.info? e = some i) (hz : i.zero = some (.int .u8 0)) (hsize : i.size = 1) (hby : i.bytes = 1)
    (v : Value) (n : Nat) (xs : List Value) (hown : w.ownsRow base e 1 v n xs) (s : ByteArray) (h63 : n + s.size ≤ maxLen) (hbytes : n + s.size ≤ 140737488355328) (v' : Value) (w' : World)
    (hr : (Builtin.append_ #[t, u] ty #[v, .string s]).run Try.prog w = .ok v' w') : ∀ k, v'.ownBlock = some k → v.ownBlock = some k ∨ w.heap.size ≤ k := by
  intro k hk
  rcases hown.2 with ⟨rfl, rfl⟩ | ⟨g, cap, cur, rfl, hbg, hg, hnc, hcm, hcs, htake⟩
  · have hx : xs = [] := List.eq_nil_of_length_eq_zero (by simpa using hown.1)
    subst hx
    obtain ⟨v2, w2, h1, h2, _, _⟩ := Lib.run_append_own_string (P := Try.prog) w w.heap.size t u ty e i ht hu hi hz hsize hby (.slice none 0 0) 0 [] (World.ownsRow_nil w w.heap.size e 1) s h63 hbytes (Nat.le_refl _)
    rw [hr] at h1
    injection h1 with e1 e2
    subst e1 e2
    exact .inr (h2.lt k hk).1
  · by_cases hroom : n + s.size ≤ cap
    · have hcs' : cur.size = cap := by simpa using hcs
      have h1 := Lib.run_append_room_string (P := Try.prog) w t u ty e i ht hu hi hsize g n cap cur hg s hroom (by omega)
      rw [hr] at h1
      injection h1 with e1 e2
      rw [e1] at hk
      left
      exact hk
    · have hxl : xs.length = n := by simpa using hown.1
      have hsmall : n + s.size ≤ 9223372036854775807 := by simp only [maxLen] at h63; omega
      have h1 := Lib.run_append_grow_string (P := Try.prog) w t u ty e i (.int .u8 0) ht hu hi hz ⟨g, 0, none⟩ n cap xs (by rw [hsize]; simpa using hxl) (hown.cells (g := g) rfl) s (by omega) (by omega) (by rw [hby]; exact growslice_fits (by omega) (by omega))
      rw [hr] at h1
      injection h1 with e1 e2
      rw [e1] at hk
      simp [Value.ownBlock] at hk
      omega
theorem append_str {w : World} {ops : Array Oper} {rest : List Oper} {o : Oper} {a : Act} {Q : Exit → Act → World → Prop} (hgd : o.guard = none) (sl x : Operand) (t u : TypeId)
    (ho : o.op = .call { callee := .builtin .append, args := #[sl, x], argTypes := #[t, u] })
    (base : Nat) (e : TypeId) (i : TypeInfo) (ht : Try.prog.underlying t = some (.slice e)) (hu : Try.prog.underlying u = some .string) (hi : Try.prog.info? e = some i) (hz : i.zero = some (.int .u8 0)) (hsize : i.size = 1) (hby : i.bytes = 1)
    (v : Value) (n : Nat) (xs : List Value) (hs : a.eval sl = v) (hown : w.ownsRow base e 1 v n xs) (s : ByteArray) (hx : a.eval x = .string s)
    (h63 : n + s.size ≤ maxLen) (hbytes : n + s.size ≤ 140737488355328) (hbase : base ≤ w.heap.size)
    (h : ∀ v' w', w'.ownsRow base e 1 v' (n + s.size) (xs ++ Lib.strCells s) → w.grownBy w' v.ownBlock → (∀ k, v'.ownBlock = some k → v.ownBlock = some k ∨ w.heap.size ≤ k) → wpList Try.prog ops Q rest (a.put o.dst v') w') : wpList Try.prog ops Q (o :: rest) a w := by
  refine wpList_plain hgd fun K hK => ?_
  obtain ⟨v', w', hr, h2, h3, _⟩ := Lib.run_append_own_string (P := Try.prog) w base t u o.type e i ht hu hi hz hsize hby v n xs hown s h63 hbytes hbase
  have h4 := append_where base t u o.type e i ht hu hi hz hsize hby v n xs hown s h63 hbytes v' w' hr
  unfold Oper.wp execOp
  simp only [ho, resolve, invoke, builtin, Sem.run_bind, Sem.run_pure, Result.andThen_ok, List.map_toArray, List.map_cons, List.map_nil, hs, hx, hr]
  exact hK _ _ (h v' w' h2 h3 h4)

/-- put is appended to. -/
theorem CV.puts {ob : Nat} {s : CSt} {vo vp vp' : Value} {w w1 : World} {x : ByteArray} (h : CV ob s vo vp w)
    (hown : w1.ownsRow (ob + 4) 5 1 vp' (s.u.size + x.size) (Lib.strCells s.u ++ Lib.strCells x)) (hg : w.grownBy w1 vp.ownBlock) (hat : ∀ k, vp'.ownBlock = some k → vp.ownBlock = some k ∨ w.heap.size ≤ k) :
    CV ob ⟨s.o, s.d, s.u ++ x⟩ vo vp' (w1.setCell ⟨ob + 1, 0, none⟩ vp') ∧ Below ob w (w1.setCell ⟨ob + 1, 0, none⟩ vp') ∧ Kept (CD ob vo vp) (CD ob vo vp') w (w1.setCell ⟨ob + 1, 0, none⟩ vp') ∧ w1.frozen? ⟨ob + 1, 0, none⟩ = false ∧ w1.cell? ⟨ob + 1, 0, none⟩ = some vp := by
  have hw1 : ∀ k, k < w.heap.size → vp.ownBlock ≠ some k → w1.heap[k]? = w.heap[k]? := fun k hk hne => hg.block k hk (fun e => hne e.symm)
  have hlow : ∀ k, k < ob + 4 → vp.ownBlock ≠ some k := fun k hk e => by have := (h.op.lt k e).1; omega
  have hbo : RowB w1 ob 53 #[vo] := (hw1 ob h.bo.lt (hlow _ (by omega))).trans h.bo
  have hbp : RowB w1 (ob + 1) 74 #[vp] := (hw1 _ h.bp.lt (hlow _ (by omega))).trans h.bp
  have hbd : RowB w1 (ob + 2) 3 #[.int .i64 s.d] := (hw1 _ h.bd.lt (hlow _ (by omega))).trans h.bd
  have hbu := (hw1 _ h.bu.lt (hlow _ (by omega))).trans h.bu
  have hoo : w1.ownsRow (ob + 4) 68 3 vo s.o.length (ecs s.o) := own_same h.oo (fun k hk hl => hw1 k hl (fun e => h.apart hk e))
  have hf : ∀ k, k ≠ ob + 1 → (w1.setCell ⟨ob + 1, 0, none⟩ vp').heap[k]? = w1.heap[k]? := fun k hk => Below.heap_setCell _ _ _ _ hk
  have hs1 := hg.size
  refine ⟨⟨hbo.far (by simp) _, own_same hoo (fun k hk _ => hf k (by have := (hoo.lt k hk).1; omega)), hbp.put 0 _, ?_, hbd.far (by simp) _, RowB.far hbu (by simp) _⟩, ?_, ⟨by simp [World.setCell]; omega, fun k hk hd => ⟨?_, ?_⟩⟩, hbp.thaw 0, hbp.cell 0⟩
  · have := own_same hown (w' := w1.setCell ⟨ob + 1, 0, none⟩ vp') (fun k hk _ => hf k (by have := (hown.lt k hk).1; omega))
    simp only [cat_size]
    rw [show Lib.strCells (s.u ++ x) = Lib.strCells s.u ++ Lib.strCells x by rw [Lib.strCells_eq, cat_bytes, Lib.byteCells_append]; rfl]
    exact this
  · exact ((Below.refl _ _).grown hg (by have := h.bo.lt; omega) (fun k hk => by have := (h.op.lt k hk).1; omega)).setCell (p := ⟨ob + 1, 0, none⟩) (by simp) _
  · rw [hf k (fun e => hd (.inr (.inl e)))]
    exact hw1 k hk (fun e => hd (.inr (.inr (.inr (.inr (.inr e))))))
  · rintro (e | e | e | e | e | e)
    · exact hd (.inl e)
    · exact hd (.inr (.inl e))
    · exact hd (.inr (.inr (.inl e)))
    · exact hd (.inr (.inr (.inr (.inl e))))
    · exact hd (.inr (.inr (.inr (.inr (.inl e)))))
    · rcases hat k e with e | e
      · exact hd (.inr (.inr (.inr (.inr (.inr e)))))
      · omega
/-- done is set. -/
theorem CV.done {ob : Nat} {s : CSt} {vo vp : Value} {w : World} (h : CV ob s vo vp w) (t : Int) :
    CV ob ⟨s.o, t, s.u⟩ vo vp (w.setCell ⟨ob + 2, 0, none⟩ (.int .i64 t)) ∧ Below ob w (w.setCell ⟨ob + 2, 0, none⟩ (.int .i64 t)) ∧ Kept (CD ob vo vp) (CD ob vo vp) w (w.setCell ⟨ob + 2, 0, none⟩ (.int .i64 t)) := by
  have hf : ∀ k, k ≠ ob + 2 → (w.setCell ⟨ob + 2, 0, none⟩ (.int .i64 t)).heap[k]? = w.heap[k]? := fun k hk => Below.heap_setCell _ _ _ _ hk
  exact ⟨⟨h.bo.far (by simp) _, own_same h.oo (fun k hk _ => hf k (by have := (h.oo.lt k hk).1; omega)), h.bp.far (by simp) _, own_same h.op (fun k hk _ => hf k (by have := (h.op.lt k hk).1; omega)), h.bd.put 0 _, h.bu.far (by simp) _⟩,
    (Below.refl _ _).setCell (p := ⟨ob + 2, 0, none⟩) (by simp) _, by simp [World.setCell], fun k _ hd => ⟨hf k (fun e => hd (.inr (.inr (.inl e)))), hd⟩⟩

def CG (p : Pc) (ps : List Pc) : Prop := ps.length ≤ 1000000 ∧ tb ps + p.x.size ≤ 140737488355328

set_option maxHeartbeats 4000000 in
set_option maxRecDepth 100000 in
theorem lay54 (ob : Nat) (ps : List Pc) (D : Nat → Prop) (p : Pc) (w : World) (h : CI ob ps D w) (hG : CG p ps) :
    Calls Try.prog 54 #[pv p, .pointer (some ⟨ob + 1, 0, none⟩), .pointer (some ⟨ob + 3, 0, none⟩), .pointer (some ⟨ob + 2, 0, none⟩)] w fun e w' => e = .returned (.tuple #[]) ∧ ∃ D', CI ob (ps ++ [p]) D' w' ∧ Below ob w w' ∧ Kept D D' w w' := by
  obtain ⟨i0, hi, hz0, hz1, hz2⟩ := info_parts info5
  obtain ⟨vo, vp, hcv, rfl⟩ := h
  obtain ⟨hsm1, hsm2⟩ := cst_small ps ⟨[], 0, ⟨#[]⟩⟩
  change (cst ps).u.size ≤ 0 + tb ps at hsm1
  change (cst ps).o.length ≤ 0 + ps.length at hsm2
  have hlt := hcv.bu.lt
  have H := Lib.hid hcv
  obtain ⟨hG1, hG2⟩ := hG
  clear hcv
  go_enter Try.func54, Try.ntmps54
  go_wp2_with fail
  refine (isPut_any p _).mono ?_
  rintro e w1 ⟨rfl, hb⟩
  have HP1 := Lib.hid ((RowB.new w 79 #[.int .i64 p.f, .int .i64 p.t, .string p.x]).below hb (by simp))
  have hbw := below_alloc' hb
  have hbz := hbw.size
  have p0 : w1.cell? ⟨w.heap.size, 0, none⟩ = some (.int .i64 p.f) := HP1.out.cell 0
  have p2 : w1.cell? ⟨w.heap.size, 2, none⟩ = some (.string p.x) := HP1.out.cell 2
  have hcv1 := H.out.same (w' := w1) (fun k hk _ => hbw.block k hk)
  have c1 : w1.cell? ⟨ob + 1, 0, none⟩ = some vp := hcv1.bp.cell 0
  have c3 : w1.cell? ⟨ob + 3, 0, none⟩ = some (.func (.func 52) #[] #[.pointer (some ⟨ob + 2, 0, none⟩), .pointer (some ⟨ob + 1, 0, none⟩), .pointer (some ⟨ob, 0, none⟩)]) := hcv1.bu.cell 0
  have H1 := Lib.hid hcv1
  have HB1 := Lib.hid (hbw.mono (by omega : ob ≤ w.heap.size))
  have HK1 := Lib.hid (Kept.below (D := CD ob vo vp) hbw)
  have hnd : ¬ CD ob vo vp w.heap.size := fun e => by have := H.out.dom e; omega
  have HND := Lib.hid hnd
  clear hb hbw hcv1 hnd
  by_cases hz : p.x.size = 0
  · rw [show (!decide (p.x.size = 0)) = false by simp [hz]]
    have E : Hid (cst (ps ++ [p]) = ⟨(cup (cst ps) p.f).o, p.t, (cup (cst ps) p.f).u⟩) := by unfold Hid; rw [cst_app]; unfold cstep; rw [if_pos hz]; rfl
    clear hz
    go_wp2_with fail
    refine (upTo_any ob (cst ps) p.f vo vp w1 H1.out (by omega)).mono ?_
    rintro e w2 ⟨rfl, vo', vp', g1, g2, g3⟩
    have HP2 := row_kept HP1.out g3 HND.out
    have q1 : w2.cell? ⟨w.heap.size, 1, none⟩ = some (.int .i64 p.t) := HP2.cell 1
    have r1 := g1.bd.thaw 0
    have r2 : w2.cell? ⟨ob + 2, 0, none⟩ = some (.int .i64 (cup (cst ps) p.f).d) := g1.bd.cell 0
    obtain ⟨k1, k2, k3⟩ := g1.done p.t
    have R1 := Lib.hid k1
    have R2 := Lib.hid ((HB1.out.trans g2).trans k2)
    have R3 := Lib.hid ((HK1.out.trans g3).trans k3)
    clear g1 g2 g3 k1 k2 k3 HP2 p0 p2 c1 c3
    go_wp2_with fail
    go_end0
    exact ⟨rfl, _, ⟨vo', vp', by rw [E.out]; exact R1.out, rfl⟩, R2.out, R3.out⟩
  · rw [show (!decide (p.x.size = 0)) = true by simp [hz]]
    have E : Hid (cst (ps ++ [p]) = ⟨(cst ps).o, (cst ps).d, (cst ps).u ++ p.x⟩) := by unfold Hid; rw [cst_app]; unfold cstep; rw [if_neg hz]
    clear hz
    go_wp2_with (at_builtin; refine append_str rfl (.tmp 7) (.tmp 9) 74 9 rfl (ob + 4) 5 i0 Try.underlying74 Try.underlying9 hi hz0 hz1 hz2 vp (cst ps).u.size (Lib.strCells (cst ps).u) rfl H1.out.op p.x rfl (by unfold maxLen; omega) (by omega) (by omega) ?_)
    intro vp' w2 hown hgrow hat
    obtain ⟨k1, k2, k3, k4, k5⟩ := H1.out.puts hown hgrow hat
    obtain ⟨Ap, cp, rfl⟩ := own_form hown
    have R1 := Lib.hid k1
    have R2 := Lib.hid (HB1.out.trans k2)
    have R3 := Lib.hid (HK1.out.trans k3)
    clear hown hgrow hat k1 k2 k3 p0 p2 c1 c3
    go_wp2
    refine bodyPost_ret (results_none rfl _ _ _) rfl ?_
    exact ⟨rfl, _, ⟨vo, _, by rw [E.out]; exact R1.out, rfl⟩, R2.out, R3.out⟩

theorem lays54 (ob : Nat) : LayD 54 [.pointer (some ⟨ob + 1, 0, none⟩), .pointer (some ⟨ob + 3, 0, none⟩), .pointer (some ⟨ob + 2, 0, none⟩)] ob (CI ob) CG where
  call := fun ps D p w hI hG _ => lay54 ob ps D p w hI hG
  dom := fun ps D w k h hk => by
    obtain ⟨vo, vp, hcv, rfl⟩ := h
    exact hcv.dom hk
  enter := by
    intro args w
    go_simp
  keep := fun ps D w w' h _ hs => by
    obtain ⟨vo, vp, hcv, rfl⟩ := h
    exact ⟨vo, vp, hcv.same hs, rfl⟩
end Go.Proofs.Ytendbkbjmibchaa
