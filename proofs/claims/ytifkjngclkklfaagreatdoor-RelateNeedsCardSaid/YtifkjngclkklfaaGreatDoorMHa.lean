/- RelateNeeds: what flows to a record with a label less; what flows among functions. -/
import Derived.Test.YtifkjngclkklfaaGreatDoorMGf
import Derived.Test.YtifkjngclkklfaaGreatDoorMGi
import Derived.Test.YtifkjngclkklfaaGreatDoorMGu
namespace Go.Proofs.YtifkjngclkklfaaGreatDoor
namespace Tm
theorem needs_flows {a b : Ty} (_ra : a.right = true) (rb : b.right = true) (h : (decide (b.kind ≠ 0) && !(a.same b)) = false) : flows a b = true := by
  by_cases hb : b.kind = 0
  · rw [flows_eq, if_pos (.inr hb)]
  · rw [decide_eq_true hb, Bool.true_and] at h
    have he : a.same b = true := by simpa using h
    rw [(Ty.same_iff a b).1 he]
    exact flows_refl b rb
theorem less_right {x : ByteArray} {bn : List ByteArray} {q : Ty} {bp : List Ty} (rb : (Ty.mk 3 (x :: bn) (q :: bp)).right = true) : (Ty.mk 3 bn bp).right = true := by
  obtain ⟨h1, h2, h3⟩ := right_rec rb rfl
  simp only [names_mk, parts_mk, List.length_cons] at h1 h2 h3
  refine right_mk ?_ fun p hp => right_part rb (by simp [hp])
  have h4 : riseB bn = true := by
    cases bn with
    | nil => rfl
    | cons y l => rw [riseB, Bool.and_eq_true] at h3; exact h3.2
  simp only [List.all_cons, Bool.and_eq_true] at h2
  unfold ownB
  simp only [h4, h2.2]
  simp
  omega
theorem less_flows {a : Ty} {x : ByteArray} {bn : List ByteArray} {q : Ty} {bp : List Ty} (h : flows a (.mk 3 (x :: bn) (q :: bp)) = true) : flows a (.mk 3 bn bp) = true := by
  by_cases h0 : a.kind = 0
  · rw [flows_eq, if_pos (.inl h0)]
  · by_cases h3 : a.kind = 3
    · rw [flows_rec h3 rfl] at h ⊢
      simp only [names_mk, parts_mk, flRec, Bool.and_eq_true] at h ⊢
      exact h.2
    · rw [flows_eq, if_neg (by simp only [kind_mk]; omega), if_pos (by simp only [kind_mk]; omega)] at h
      exact absurd h (by decide)
theorem less_cnt {x : ByteArray} {bn : List ByteArray} {q : Ty} {bp : List Ty} : (Ty.mk 3 bn bp).cnt ≤ (Ty.mk 3 (x :: bn) (q :: bp)).cnt := by
  rw [Ty.cnt, Ty.cnt, cntL]
  simp only [List.length_cons]
  omega
theorem res_flows {a b c : Ty} (rc : c.right = true) : flows (fnOf [c] a) (fnOf [c] b) = flows a b := by
  rw [flows_fn rfl rfl]
  simp [fnOf, parts_mk, flFn, flows_refl c rc]
theorem par_flows {a b c : Ty} (rc : c.right = true) : flows (fnOf [b] c) (fnOf [a] c) = flows a b := by
  rw [flows_fn rfl rfl]
  simp [fnOf, parts_mk, flFn, flows_refl c rc]
theorem one_right {a c : Ty} (ra : a.right = true) (rc : c.right = true) : (fnOf [c] a).right = true := fnOf_right (by simpa using rc) ra
theorem one_cnt {a c : Ty} : (fnOf [c] a).cnt ≤ a.cnt + c.cnt + 9 := by
  rw [fnOf, Ty.cnt]
  simp [cntL]
  omega
end Tm
end Go.Proofs.YtifkjngclkklfaaGreatDoor
/- Two functions' types made in one statement: what holds while its operations come up. -/
namespace Go.Proofs.YtifkjngclkklfaaGreatDoor
open Go.RowKit Go.Op
namespace Tm
/-- A type's row, made behind W. -/
def MR (W w : World) (s : Value) (t : Ty) : Prop := ∃ H An cn A c, s = .pointer (some ⟨H, 0, none⟩) ∧ W.heap.size ≤ H ∧ RowB w H 25 (tarr t.kind An t.names.length cn A t.parts.length c) ∧ TI w (fun _ => True) t An cn A c
theorem MR.below {W w w' : World} {s : Value} {t : Ty} (h : MR W w s t) (hb : Below w.heap.size w w') : MR W w' s t := by
  obtain ⟨H, An, cn, A, c, h1, h2, h3, h4⟩ := h
  exact ⟨H, An, cn, A, c, h1, h2, h3.below hb h3.lt, h4.below hb⟩
/-- Neither of the two rows. -/
def Nei (x : World) (u v : Option Nat) (g : Nat) : Prop := g < x.heap.size ∧ some g ≠ u ∧ some g ≠ v
structure I9 (W x : World) (a p b q : Ty) (u2 u3 u6 u7 : Option Value) (u8 u9 : Option Nat) : Prop where
  low : Below W.heap.size W x
  s2 : ∀ v, u2 = some v → ∃ H, v = .slice (some ⟨H, 0, none⟩) 1 1 ∧ TV x (Nei x u8 u9) [p] (some ⟨H, 0, none⟩) 1
  s6 : ∀ v, u6 = some v → ∃ H, v = .slice (some ⟨H, 0, none⟩) 1 1 ∧ TV x (Nei x u8 u9) [q] (some ⟨H, 0, none⟩) 1
  s3 : ∀ v, u3 = some v → ∃ An cn A c, v = tv (fnOf [p] a) An cn A c ∧ TI x (Nei x u8 u9) (fnOf [p] a) An cn A c
  s7 : ∀ v, u7 = some v → ∃ An cn A c, v = tv (fnOf [q] b) An cn A c ∧ TI x (Nei x u8 u9) (fnOf [q] b) An cn A c
  r8 : ∀ h, u8 = some h → W.heap.size ≤ h ∧ RowB x h 25 tzc
  r9 : ∀ h, u9 = some h → W.heap.size ≤ h ∧ RowB x h 25 tzc
  ne : ∀ h, u8 = some h → u9 = some h → False
section
variable {W x : World} {a p b q : Ty} {u2 u3 u6 u7 : Option Value} {u8 u9 : Option Nat}
theorem I9.start (W x : World) (a p b q : Ty) (h : Below W.heap.size W x) : I9 W x a p b q none none none none none none := ⟨h, (fun _ h => nomatch h), (fun _ h => nomatch h), (fun _ h => nomatch h), (fun _ h => nomatch h), (fun _ h => nomatch h), (fun _ h => nomatch h), (fun _ h => nomatch h)⟩
theorem I9.step {y : World} (h : I9 W x a p b q u2 u3 u6 u7 u8 u9) (hb : Below x.heap.size x y) : I9 W y a p b q u2 u3 u6 u7 u8 u9 := by
  have hk : ∀ g, Nei x u8 u9 g → g < x.heap.size → y.heap[g]? = x.heap[g]? ∧ Nei y u8 u9 g := fun g hg hl => ⟨hb.block g hl, Nat.lt_of_lt_of_le hl hb.size, hg.2⟩
  refine ⟨h.low.trans (hb.mono h.low.size), fun v e => ?_, fun v e => ?_, fun v e => ?_, fun v e => ?_, fun v e => ?_, fun v e => ?_, h.ne⟩
  · obtain ⟨H, e1, e2⟩ := h.s2 v e; exact ⟨H, e1, e2.keep hb.size hk⟩
  · obtain ⟨H, e1, e2⟩ := h.s6 v e; exact ⟨H, e1, e2.keep hb.size hk⟩
  · obtain ⟨An, cn, A, c, e1, e2⟩ := h.s3 v e; exact ⟨An, cn, A, c, e1, e2.keep hb.size hk⟩
  · obtain ⟨An, cn, A, c, e1, e2⟩ := h.s7 v e; exact ⟨An, cn, A, c, e1, e2.keep hb.size hk⟩
  · obtain ⟨e1, e2⟩ := h.r8 v e; exact ⟨e1, e2.below hb e2.lt⟩
  · obtain ⟨e1, e2⟩ := h.r9 v e; exact ⟨e1, e2.below hb e2.lt⟩
/-- What was there ahead lies in neither row. -/
theorem I9.old (h : I9 W x a p b q u2 u3 u6 u7 u8 u9) {P : Nat → Prop} {t : Ty} {An : Option Addr} {cn : Nat} {A : Option Addr} {c : Nat} (ht : TI W P t An cn A c) : TI x (Nei x u8 u9) t An cn A c :=
  ht.keep h.low.size fun g _ hl => ⟨h.low.block g hl, Nat.lt_of_lt_of_le hl h.low.size, fun e => by have := (h.r8 g e.symm).1; omega, fun e => by have := (h.r9 g e.symm).1; omega⟩
theorem I9.lts (h : I9 W x a p b q u2 u3 u6 u7 u8 u9) : (∀ g, x.heap.size ≤ g → some g ≠ u8 ∧ some g ≠ u9) := fun g hg => ⟨fun e => by have := (h.r8 g e.symm).2.lt; omega, fun e => by have := (h.r9 g e.symm).2.lt; omega⟩
theorem I9.one {P : Nat → Prop} {t : Ty} {An : Option Addr} {cn : Nat} {A : Option Addr} {c : Nat} (h : I9 W x a p b q u2 u3 u6 u7 u8 u9) (ht : TI W P t An cn A c) :
    TV (x.alloc (.cells (tarr t.kind An t.names.length cn A t.parts.length c) 25)) (Nei (x.alloc (.cells (tarr t.kind An t.names.length cn A t.parts.length c) 25)) u8 u9) [t] (some ⟨x.heap.size, 0, none⟩) 1 := by
  have hb := bel1 x (.cells (tarr t.kind An t.names.length cn A t.parts.length c) 25)
  refine TV.new (RowB.new x 25 _) (TL.one ((h.step hb).old ht)) ⟨?_, h.lts _ (Nat.le_refl _)⟩
  simp
theorem I9.bs2 {P : Nat → Prop} {An : Option Addr} {cn : Nat} {A : Option Addr} {c : Nat} (h : I9 W x a p b q none u3 u6 u7 u8 u9) (ht : TI W P p An cn A c) :
    I9 W (x.alloc (.cells (tarr p.kind An p.names.length cn A p.parts.length c) 25)) a p b q (some (.slice (some ⟨x.heap.size, 0, none⟩) 1 1)) u3 u6 u7 u8 u9 := by
  have k := h.step (bel1 x (.cells (tarr p.kind An p.names.length cn A p.parts.length c) 25))
  exact ⟨k.low, fun v e => by injection e with e; subst e; exact ⟨_, rfl, h.one ht⟩, k.s6, k.s3, k.s7, k.r8, k.r9, k.ne⟩
theorem I9.bs6 {P : Nat → Prop} {An : Option Addr} {cn : Nat} {A : Option Addr} {c : Nat} (h : I9 W x a p b q u2 u3 none u7 u8 u9) (ht : TI W P q An cn A c) :
    I9 W (x.alloc (.cells (tarr q.kind An q.names.length cn A q.parts.length c) 25)) a p b q u2 u3 (some (.slice (some ⟨x.heap.size, 0, none⟩) 1 1)) u7 u8 u9 := by
  have k := h.step (bel1 x (.cells (tarr q.kind An q.names.length cn A q.parts.length c) 25))
  exact ⟨k.low, k.s2, fun v e => by injection e with e; subst e; exact ⟨_, rfl, h.one ht⟩, k.s3, k.s7, k.r8, k.r9, k.ne⟩
theorem I9.al8 (h : I9 W x a p b q u2 u3 u6 u7 none u9) : I9 W (x.alloc (.cells tzc 25)) a p b q u2 u3 u6 u7 (some x.heap.size) u9 := by
  have k := h.step (bel1 x (.cells tzc 25))
  have hk : ∀ g, Nei x none u9 g → g < x.heap.size → (x.alloc (.cells tzc 25)).heap[g]? = x.heap[g]? ∧ Nei (x.alloc (.cells tzc 25)) (some x.heap.size) u9 g := fun g hg hl => ⟨(bel1 x (.cells tzc 25)).block g hl, Nat.lt_of_lt_of_le hl (bel1 x (.cells tzc 25)).size, fun e => by injection e with e; omega, hg.2.2⟩
  have hs := (bel1 x (.cells tzc 25)).size
  refine ⟨k.low, fun v e => ?_, fun v e => ?_, fun v e => ?_, fun v e => ?_, fun v e => ?_, k.r9, fun v e e' => ?_⟩
  · obtain ⟨H, e1, e2⟩ := h.s2 v e; exact ⟨H, e1, e2.keep hs hk⟩
  · obtain ⟨H, e1, e2⟩ := h.s6 v e; exact ⟨H, e1, e2.keep hs hk⟩
  · obtain ⟨An, cn, A, c, e1, e2⟩ := h.s3 v e; exact ⟨An, cn, A, c, e1, e2.keep hs hk⟩
  · obtain ⟨An, cn, A, c, e1, e2⟩ := h.s7 v e; exact ⟨An, cn, A, c, e1, e2.keep hs hk⟩
  · injection e with e; subst e; exact ⟨h.low.size, RowB.new x 25 tzc⟩
  · injection e with e; subst e; exact (h.lts _ (Nat.le_refl _)).2 e'.symm
theorem I9.al9 (h : I9 W x a p b q u2 u3 u6 u7 u8 none) : I9 W (x.alloc (.cells tzc 25)) a p b q u2 u3 u6 u7 u8 (some x.heap.size) := by
  have k := h.step (bel1 x (.cells tzc 25))
  have hk : ∀ g, Nei x u8 none g → g < x.heap.size → (x.alloc (.cells tzc 25)).heap[g]? = x.heap[g]? ∧ Nei (x.alloc (.cells tzc 25)) u8 (some x.heap.size) g := fun g hg hl => ⟨(bel1 x (.cells tzc 25)).block g hl, Nat.lt_of_lt_of_le hl (bel1 x (.cells tzc 25)).size, hg.2.1, fun e => by injection e with e; omega⟩
  have hs := (bel1 x (.cells tzc 25)).size
  refine ⟨k.low, fun v e => ?_, fun v e => ?_, fun v e => ?_, fun v e => ?_, k.r8, fun v e => ?_, fun v e e' => ?_⟩
  · obtain ⟨H, e1, e2⟩ := h.s2 v e; exact ⟨H, e1, e2.keep hs hk⟩
  · obtain ⟨H, e1, e2⟩ := h.s6 v e; exact ⟨H, e1, e2.keep hs hk⟩
  · obtain ⟨An, cn, A, c, e1, e2⟩ := h.s3 v e; exact ⟨An, cn, A, c, e1, e2.keep hs hk⟩
  · obtain ⟨An, cn, A, c, e1, e2⟩ := h.s7 v e; exact ⟨An, cn, A, c, e1, e2.keep hs hk⟩
  · injection e with e; subst e; exact ⟨h.low.size, RowB.new x 25 tzc⟩
  · injection e' with e'; subst e'; exact (h.lts _ (Nat.le_refl _)).1 e.symm
theorem I9.made {t r : Ty} {P : Nat → Prop} {An : Option Addr} {cn : Nat} {A : Option Addr} {c H : Nat} (h : I9 W x a p b q u2 u3 u6 u7 u8 u9) (ht : TI W P t An cn A c) (hv : TV x (Nei x u8 u9) [r] (some ⟨H, 0, none⟩) 1) :
    Calls Tryz.prog 28 #[tv t An cn A c, .slice (some ⟨H, 0, none⟩) 1 1] x fun e y => ∃ v, e = .returned v ∧ I9 W y a p b q u2 u3 u6 u7 u8 u9 ∧ ∃ An cn A c, v = tv (fnOf [r] t) An cn A c ∧ TI y (Nei y u8 u9) (fnOf [r] t) An cn A c := by
  refine (func_any x t [r] _ _ An cn A c _ 1 (h.old ht) hv (by simp)).mono ?_
  rintro e y ⟨hb, An, cn, A, c, rfl, ht'⟩
  refine ⟨_, rfl, h.step hb, _, _, _, _, rfl, ht'.keep (Nat.le_refl _) fun g hg hl => ⟨rfl, hl, ?_⟩⟩
  rcases hg with (hg | hg) | hg
  · exact hg.2
  · exact hg.2
  · exact h.lts g hg
theorem I9.call3 {P : Nat → Prop} {An : Option Addr} {cn : Nat} {A : Option Addr} {c : Nat} {v2 : Value} (h : I9 W x a p b q (some v2) none u6 u7 u8 u9) (ht : TI W P a An cn A c) :
    Calls Tryz.prog 28 #[tv a An cn A c, v2] x fun e y => ∃ v, e = .returned v ∧ I9 W y a p b q (some v2) (some v) u6 u7 u8 u9 := by
  obtain ⟨H, rfl, hv⟩ := h.s2 v2 rfl
  refine (h.made ht hv).mono ?_
  rintro e y ⟨v, rfl, k, hm⟩
  exact ⟨v, rfl, k.low, k.s2, k.s6, fun v' e => by injection e with e; subst e; exact hm, k.s7, k.r8, k.r9, k.ne⟩
theorem I9.call7 {P : Nat → Prop} {An : Option Addr} {cn : Nat} {A : Option Addr} {c : Nat} {v6 : Value} (h : I9 W x a p b q u2 u3 (some v6) none u8 u9) (ht : TI W P b An cn A c) :
    Calls Tryz.prog 28 #[tv b An cn A c, v6] x fun e y => ∃ v, e = .returned v ∧ I9 W y a p b q u2 u3 (some v6) (some v) u8 u9 := by
  obtain ⟨H, rfl, hv⟩ := h.s6 v6 rfl
  refine (h.made ht hv).mono ?_
  rintro e y ⟨v, rfl, k, hm⟩
  exact ⟨v, rfl, k.low, k.s2, k.s6, k.s3, fun v' e => by injection e with e; subst e; exact hm, k.r8, k.r9, k.ne⟩
/-- Three cells put. -/
def put3 (x : World) (R : Nat) (u0 u1 u2 : Value) : World := ((x.setCell ⟨R, 0, none⟩ u0).setCell ⟨R, 1, none⟩ u1).setCell ⟨R, 2, none⟩ u2
theorem RowB.put3 {w : World} {g : Nat} (h : RowB w g 25 tzc) (u0 u1 u2 : Value) : RowB (put3 w g u0 u1 u2) g 25 #[u0, u1, u2] := ((h.put 0 u0).put 1 u1).put 2 u2
theorem RowB.far3 {w : World} {g R : Nat} {cs : Array Value} (h : RowB w g 25 cs) (hr : g ≠ R) (u0 u1 u2 : Value) : RowB (Tm.put3 w R u0 u1 u2) g 25 cs :=
  ((h.far (p := ⟨R, 0, none⟩) hr u0).far (p := ⟨R, 1, none⟩) hr u1).far (p := ⟨R, 2, none⟩) hr u2
/-- Both results, put into their rows. -/
theorem I9.fin {v3 v7 : Value} {h8 h9 : Nat} (h : I9 W x a p b q u2 (some v3) u6 (some v7) (some h8) (some h9)) :
    ∃ An cn A c Bn dn B d, v3 = .agg #[.int .i64 4, .slice An 0 cn, .slice A 2 c] ∧ v7 = .agg #[.int .i64 4, .slice Bn 0 dn, .slice B 2 d] ∧ W.heap.size ≤ h8 ∧ W.heap.size ≤ h9 ∧
      RowB x h8 25 tzc ∧
      RowB (Tm.put3 x h8 (.int .i64 4) (.slice An 0 cn) (.slice A 2 c)) h9 25 tzc ∧
      Below W.heap.size W (Tm.put3 x h8 (.int .i64 4) (.slice An 0 cn) (.slice A 2 c)) ∧
      Below W.heap.size W (Tm.put3 (Tm.put3 x h8 (.int .i64 4) (.slice An 0 cn) (.slice A 2 c)) h9 (.int .i64 4) (.slice Bn 0 dn) (.slice B 2 d)) ∧
      MR W (Tm.put3 (Tm.put3 x h8 (.int .i64 4) (.slice An 0 cn) (.slice A 2 c)) h9 (.int .i64 4) (.slice Bn 0 dn) (.slice B 2 d)) (.pointer (some ⟨h8, 0, none⟩)) (fnOf [p] a) ∧
      MR W (Tm.put3 (Tm.put3 x h8 (.int .i64 4) (.slice An 0 cn) (.slice A 2 c)) h9 (.int .i64 4) (.slice Bn 0 dn) (.slice B 2 d)) (.pointer (some ⟨h9, 0, none⟩)) (fnOf [q] b) := by
  obtain ⟨An, cn, A, c, e3, t3⟩ := h.s3 v3 rfl
  obtain ⟨Bn, dn, B, d, e7, t7⟩ := h.s7 v7 rfl
  obtain ⟨l8, r8⟩ := h.r8 h8 rfl
  obtain ⟨l9, r9⟩ := h.r9 h9 rfl
  have hne : h9 ≠ h8 := fun e => h.ne h8 rfl (by rw [e])
  have b8 := below_put3 h.low l8 (.int .i64 4) (.slice An 0 cn) (.slice A 2 c)
  have b9 := below_put3 b8 l9 (.int .i64 4) (.slice Bn 0 dn) (.slice B 2 d)
  have k9 := RowB.far3 r9 hne (.int .i64 4) (.slice An 0 cn) (.slice A 2 c)
  have q3 := (t3.put3 (R := h8) (Q' := Nei x (some h8) (some h9)) (fun g hg => ⟨hg, fun e => hg.2.1 (by rw [e])⟩) (.int .i64 4) (.slice An 0 cn) (.slice A 2 c)).put3 (R := h9) (Q' := fun _ => True) (fun g hg => ⟨trivial, fun e => hg.2.2 (by rw [e])⟩) (.int .i64 4) (.slice Bn 0 dn) (.slice B 2 d)
  have q7 := (t7.put3 (R := h8) (Q' := Nei x (some h8) (some h9)) (fun g hg => ⟨hg, fun e => hg.2.1 (by rw [e])⟩) (.int .i64 4) (.slice An 0 cn) (.slice A 2 c)).put3 (R := h9) (Q' := fun _ => True) (fun g hg => ⟨trivial, fun e => hg.2.2 (by rw [e])⟩) (.int .i64 4) (.slice Bn 0 dn) (.slice B 2 d)
  exact ⟨An, cn, A, c, Bn, dn, B, d, e3, e7, l8, l9, r8, k9, b8, b9, ⟨h8, An, cn, A, c, rfl, l8, RowB.far3 (RowB.put3 r8 _ _ _) (Ne.symm hne) _ _ _, q3⟩, ⟨h9, Bn, dn, B, d, rfl, l9, RowB.put3 k9 _ _ _, q7⟩⟩
end
end Tm
end Go.Proofs.YtifkjngclkklfaaGreatDoor
/- Regions that draw their order: by what holds whatever has come up. -/
namespace Go.Proofs.YtifkjngclkklfaaGreatDoor
open Go.RowKit Go.Op
namespace Tm
theorem cnt_set : ∀ (l : List Bool) (i : Nat), l[i]? = some false → (l.set i true).count false + 1 = l.count false
  | [], _, h => by simp at h
  | b :: l, 0, h => by
    simp only [List.getElem?_cons_zero, Option.some.injEq] at h
    subst h
    simp
  | b :: l, i + 1, h => by
    have ih := cnt_set l i (by simpa using h)
    simp only [List.set_cons_succ, List.count_cons]
    omega
section
variable {P : Program} {ops : Array Oper} {Q : Exit → Act → World → Prop} {md : Region.Mode} {S : Array Bool → World → Prop}
/-- What holds of list, frame and world, whatever has come up, up to the list E. -/
theorem wpG_inv {Inv : Array Bool → Act → World → Prop} {E : Array Bool} {n : Nat}
    (hne : ∀ l a w, Inv l a w → l ≠ E → Region.ready md ops l ≠ [])
    (hstep : ∀ l a w, Inv l a w → l ≠ E → ∀ i ∈ Region.ready md ops l, wpOp P ops Q i (fun a' w' => S (l.setIfInBounds i true) w' ∧ Inv (l.setIfInBounds i true) a' w') a w)
    (hn : E.toList.count false = n) (hend : ∀ a w, Inv E a w → ∀ f, wpG P md ops Q S (f + n) E a w) :
    ∀ (fuel : Nat) (l : Array Bool) (a : Act) (w : World), Inv l a w → l.toList.count false ≤ fuel → wpG P md ops Q S fuel l a w := by
  intro fuel
  induction fuel with
  | zero =>
    intro l a w h hc
    by_cases he : l = E
    · subst he
      have := hend a w h 0
      rw [show 0 + n = 0 by omega] at this
      exact this
    · obtain ⟨i, hi⟩ := List.exists_mem_of_ne_nil _ (hne l a w h he)
      have h0 := (mem_ready.1 hi).1
      have h1 : l.toList[i]? = some false := by
        rcases Nat.lt_or_ge i l.size with h' | h'
        · simp [h'] at h0 ⊢
          exact h0
        · simp [Array.getElem?_eq_none h'] at h0
      have := cnt_set _ _ h1
      omega
  | succ fuel ih =>
    intro l a w h hc
    by_cases he : l = E
    · subst he
      have := hend a w h (fuel + 1 - n)
      rw [show fuel + 1 - n + n = fuel + 1 by omega] at this
      exact this
    · refine ⟨fun h0 => absurd h0 (hne l a w h he), fun i hi => ?_⟩
      have h0 := (mem_ready.1 hi).1
      have h1 : l.toList[i]? = some false := by
        rcases Nat.lt_or_ge i l.size with h' | h'
        · simp [h'] at h0 ⊢
          exact h0
        · simp [Array.getElem?_eq_none h'] at h0
      have h2 := cnt_set _ _ h1
      refine wpOp_mono (fun a' w' h3 => ⟨h3.1, ih _ a' w' h3.2 ?_⟩) (hstep l a w h he i hi)
      rw [Array.toList_setIfInBounds]
      omega
/-- One operation's step, its guard aside. -/
theorem op_step {K : Act → World → Prop} {a : Act} {w : World} {i : Nat} {o : Oper} (ho : ops.toList[i]? = some o) (hg : o.guard = none)
    (h : ∀ K' : Act → World → Prop, Shut (∀ a w, K a w → K' a w) → Oper.wp P o a w K' Q) : wpOp P ops Q i K a w := by
  have ho' : ops[i]? = some o := by rw [← Array.getElem?_toList]; exact ho
  refine wpOp_step ho' (fun K' hK => ?_)
  rw [if_pos (by simp [Region.wanted, hg])]
  exact h K' hK
end
end Tm
end Go.Proofs.YtifkjngclkklfaaGreatDoor
/- Two functions' types made in one statement, in whatever order. -/
namespace Go.Proofs.YtifkjngclkklfaaGreatDoor
open Go.RowKit Go.Op
namespace Tm
theorem MR.weak {W W' w : World} {s : Value} {t : Ty} (h : MR W' w s t) (hs : W.heap.size ≤ W'.heap.size) : MR W w s t := by
  obtain ⟨H, An, cn, A, c, h1, h2, h3⟩ := h
  exact ⟨H, An, cn, A, c, h1, Nat.le_trans hs h2, h3⟩
/-- What has come up, and what lies where then. -/
def J9 (W : World) (a p b q : Ty) (F : Value → Value → Value → Value → Value → Value → Array Value) (l : Array Bool) (act : Act) (w : World) : Prop :=
  ∃ b2 b3 b6 b7 b8 b9 : Bool, l = #[true, true, b2, b3, true, true, b6, b7, b8, b9, false, false] ∧ (b3 = true → b2 = true) ∧ (b7 = true → b3 = true ∧ b6 = true) ∧
    ∃ (s8 s9 s2 s3 s6 s7 : Value) (h8 h9 : Nat), act = ⟨F s8 s9 s2 s3 s6 s7, []⟩ ∧
      I9 W w a p b q (cond b2 (some s2) none) (cond b3 (some s3) none) (cond b6 (some s6) none) (cond b7 (some s7) none) (cond b8 (some h8) none) (cond b9 (some h9) none) ∧
      (b8 = true → s8 = .pointer (some ⟨h8, 0, none⟩)) ∧ (b9 = true → s9 = .pointer (some ⟨h9, 0, none⟩))
def R9 (b2 b3 b6 b7 b8 b9 : Bool) (i : Nat) : Bool := decide ((i = 2 ∧ b2 = false) ∨ (i = 3 ∧ b2 = true ∧ b3 = false) ∨ (i = 6 ∧ b6 = false) ∨ (i = 7 ∧ b3 = true ∧ b6 = true ∧ b7 = false) ∨ (i = 8 ∧ b8 = false) ∨ (i = 9 ∧ b9 = false))
theorem all_of {l : List Nat} {R : Nat → Bool} {i : Nat} (h : i ∈ l) (hr : l.all R = true) : R i = true := List.all_eq_true.1 hr i h
theorem ne_of_isEmpty {l : List Nat} (h : l.isEmpty = false) : l ≠ [] := fun e => by rw [e] at h; cases h
theorem wpG_frame {P : Program} {ops : Array Oper} {Q : Exit → Act → World → Prop} {md : Region.Mode} {S : Array Bool → World → Prop} {fuel : Nat} {l : Array Bool} {A : Array Value} {w : World} (h : ∀ A0, A0 = A → wpG P md ops Q S fuel l ⟨A0, []⟩ w) : wpG P md ops Q S fuel l ⟨A, []⟩ w := h A rfl
theorem setD {A : Array Value} {i : Nat} {d : Value} : A.setIfInBounds i (A.getD i d) = A := by
  refine Array.ext (by simp) fun j h1 h2 => ?_
  rw [Array.getElem_setIfInBounds h2]
  by_cases h : i = j
  · subst h
    simp [Array.getD, h2]
  · simp [h]
end Tm
end Go.Proofs.YtifkjngclkklfaaGreatDoor
