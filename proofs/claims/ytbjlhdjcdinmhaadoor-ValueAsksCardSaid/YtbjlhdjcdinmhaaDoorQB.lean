/- Regions that draw their order. -/
import Derived.Test.YtbjlhdjcdinmhaaDoorQA
import Derived.Deep.RegionHeld3
import Derived.BigQuiet
namespace Go.Proofs.YtbjlhdjcdinmhaaDoor
open Go.RowKit Go.Op
namespace Vm
section
variable {P : Program} {ops : Array Oper} {Q : Exit → Act → World → Prop} {md : Region.Mode} {S : Array Bool → World → Prop}
/-- Whatever order is picked from here on, and S holds behind every operation, of what has come up then. -/
def wpG (P : Program) (md : Region.Mode) (ops : Array Oper) (Q : Exit → Act → World → Prop) (S : Array Bool → World → Prop) : Nat → Array Bool → Act → World → Prop
  | 0, listed, a, w => Region.ready md ops listed = [] ∧ Q .normal a w
  | fuel + 1, listed, a, w =>
    (Region.ready md ops listed = [] → Q .normal a w) ∧
    ∀ i ∈ Region.ready md ops listed, wpOp P ops Q i (fun a' w' => S (listed.setIfInBounds i true) w' ∧ wpG P md ops Q S fuel (listed.setIfInBounds i true) a' w') a w
theorem wpG_any : ∀ (fuel : Nat) (listed : Array Bool) (a : Act) (w : World), wpG P md ops Q S fuel listed a w → wpAny P md ops Q fuel listed a w
  | 0, _, _, _, h => h
  | fuel + 1, _, _, _, h => ⟨h.1, fun i hi => wpOp_mono (fun a' w' h' => wpG_any fuel _ a' w' h'.2) (h.2 i hi)⟩
/-- An operation that may come up may be taken first, if it yields its value in every world that meets S at any list at which it has not come up yet. -/
theorem wpG_first {i : Nat} {oi : Oper} {v : Value} {G : Array Bool → Prop} (hi : ops[i]? = some oi) (hsel : ∀ (j : Nat) (o : Oper) cs b, ops[j]? = some o → o.op ≠ .select cs b)
    (hQ : ∀ c a w, Q (.panic c) (a.put oi.dst v) w → Q (.panic c) a w) (hmono : ∀ l w, S (l.setIfInBounds i true) w → S l w)
    (hG : ∀ l j, G l → i ∈ Region.ready md ops l → j ∈ Region.ready md ops l → j ≠ i → G (l.setIfInBounds j true)) :
    ∀ (fuel : Nat) (listed : Array Bool) (a : Act) (w : World),
      (∀ j oj, ops[j]? = some oj → j ≠ i → listed.getD j true = false → (∀ e ∈ oj.after, Region.binds md e = true → e.on ≠ i) → oi.apart ops oj = true) →
      i ∈ Region.ready md ops listed → YieldsIf P ops (fun w => ∃ l, G l ∧ S l w) oi v a → G listed → S listed w → S (listed.setIfInBounds i true) w →
      wpG P md ops Q S fuel (listed.setIfInBounds i true) (a.put oi.dst v) w → wpG P md ops Q S (fuel + 1) listed a w := by
  intro fuel
  induction fuel with
  | zero =>
    intro listed a w _ hr hy hg hS hS' H
    refine ⟨fun h => (by rw [h] at hr; cases hr), fun j hj => ?_⟩
    by_cases hji : j = i
    · subst hji; exact hy.wpOp hi ⟨_, hg, hS⟩ ⟨hS', H⟩
    · have := ready_mono hj hji
      rw [H.1] at this
      cases this
  | succ fuel ih =>
    intro listed a w hfree hr hy hg hS hS' H
    refine ⟨fun h => (by rw [h] at hr; cases hr), fun j hj => ?_⟩
    by_cases hji : j = i
    · subst hji; exact hy.wpOp hi ⟨_, hg, hS⟩ ⟨hS', H⟩
    · have h1 := H.2 j (ready_mono hj hji)
      obtain ⟨hjun, oj, hoj, hall⟩ := mem_ready.1 hj
      have hnot : ∀ e ∈ oj.after, Region.binds md e = true → e.on ≠ i := fun e he hb heq => by
        have h1 := hall e he hb
        have h0 := (mem_ready.1 hr).1
        rw [heq] at h1
        rcases Nat.lt_or_ge i listed.size with h' | h'
        · simp [h'] at h0 h1; rw [h0] at h1; cases h1
        · simp [Array.getElem?_eq_none h'] at h1
      have h2 := wpOp_putIf hoj (hfree j oj hoj hji hjun hnot) (fun cs b => hsel i oi cs b hi) (fun cs b => hsel j oj cs b hoj) hQ hy h1
      have hfree' : ∀ k ok, ops[k]? = some ok → k ≠ i → (listed.setIfInBounds j true).getD k true = false →
          (∀ e ∈ ok.after, Region.binds md e = true → e.on ≠ i) → oi.apart ops ok = true := fun k ok hk hki hun hno => by
        refine hfree k ok hk hki ?_ hno
        by_cases hjk : j = k
        · subst hjk; exact hjun
        · rw [getD_set_ne true hjk] at hun; exact hun
      refine wpOp_mono (fun a' w' h3 => ?_) h2
      have hs := h3.2.1
      rw [Array.setIfInBounds_comm _ _ (Ne.symm hji)] at hs
      have hs2 := hmono _ _ hs
      refine ⟨hs2, ih (listed.setIfInBounds j true) a' w' hfree' (ready_mono hr (Ne.symm hji)) h3.1 (hG _ _ hg hr hj hji) hs2 hs ?_⟩
      rw [Array.setIfInBounds_comm _ _ hji]
      exact h3.2.2
/-- What is said of the world, and two parts of it for as long as an operation each has not come up. -/
def SG (S0 : World → Prop) (m1 : Nat) (A1 : World → Prop) (m2 : Nat) (A2 : World → Prop) (l : Array Bool) (w : World) : Prop := S0 w ∧ (l.getD m1 true = false → A1 w) ∧ (l.getD m2 true = false → A2 w)
variable {S0 A1 A2 : World → Prop} {m1 m2 : Nat}
theorem SG.mono {i : Nat} (h1 : i ≠ m1) (h2 : i ≠ m2) (l : Array Bool) (w : World) (h : SG S0 m1 A1 m2 A2 (l.setIfInBounds i true) w) : SG S0 m1 A1 m2 A2 l w := by
  unfold SG at *
  rw [getD_set_ne true h1, getD_set_ne true h2] at h
  exact h
theorem SG.set {i : Nat} {l : Array Bool} {w : World} (h1 : i ≠ m1) (h2 : i ≠ m2) (h : SG S0 m1 A1 m2 A2 l w) : SG S0 m1 A1 m2 A2 (l.setIfInBounds i true) w := by
  unfold SG at *
  rw [getD_set_ne true h1, getD_set_ne true h2]
  exact h
theorem wpG_take0 {i : Nat} {oi : Oper} {v : Value} {fuel : Nat} {listed : Array Bool} {a : Act} {w : World} (hi : ops.toList[i]? = some oi)
    (hs : Region.noSelect ops = true) (hf : Region.free md ops listed i = true) (hr : (Region.ready md ops listed).contains i = true) (h1 : i ≠ m1) (h2 : i ≠ m2)
    (hQ : ∀ c a w, Q (.panic c) (a.put oi.dst v) w → Q (.panic c) a w) (hS : SG S0 m1 A1 m2 A2 listed w) (hy : YieldsIf P ops S0 oi v a)
    (h : wpG P md ops Q (SG S0 m1 A1 m2 A2) fuel (listed.setIfInBounds i true) (a.put oi.dst v) w) : wpG P md ops Q (SG S0 m1 A1 m2 A2) (fuel + 1) listed a w := by
  have hi' : ops[i]? = some oi := by rw [← Array.getElem?_toList]; exact hi
  exact wpG_first (G := fun _ => True) hi' (Region.noSelect_spec hs) hQ (SG.mono h1 h2) (fun _ _ _ _ _ _ => trivial) fuel listed a w (Region.free_spec hi' hf) (by simpa using hr)
    (hy.imp (fun h => ⟨h.1, fun w ⟨_, _, hw⟩ => h.2 w hw.1⟩) id) trivial hS (hS.set h1 h2) h
/-- Does operation m wait for i? -/
def waits (md : Region.Mode) (ops : Array Oper) (m i : Nat) : Bool := match ops[m]? with
  | some o => o.after.any fun e => Region.binds md e && e.on == i
  | none => false
theorem waits_stays {m i j : Nat} (hw : waits md ops m i = true) {l : Array Bool} (hi : i ∈ Region.ready md ops l) (hj : j ∈ Region.ready md ops l) : j ≠ m := by
  rintro rfl
  obtain ⟨_, o, ho, hall⟩ := mem_ready.1 hj
  unfold waits at hw
  rw [ho] at hw
  simp only [Array.any_eq_true] at hw
  obtain ⟨k, hk, he⟩ := hw
  rw [Bool.and_eq_true, beq_iff_eq] at he
  have h1 := hall _ (Array.getElem_mem hk) he.1
  rw [he.2] at h1
  have h0 := (mem_ready.1 hi).1
  rcases Nat.lt_or_ge i l.size with h' | h'
  · simp [h'] at h0 h1; rw [h0] at h1; cases h1
  · simp [Array.getElem?_eq_none h'] at h1
theorem wpG_take1 {i : Nat} {oi : Oper} {v : Value} {fuel : Nat} {listed : Array Bool} {a : Act} {w : World} (hi : ops.toList[i]? = some oi)
    (hs : Region.noSelect ops = true) (hf : Region.free md ops listed i = true) (hr : (Region.ready md ops listed).contains i = true) (h1 : i ≠ m1) (h2 : i ≠ m2) (hw : waits md ops m1 i = true) (hu : listed.getD m1 true = false)
    (hQ : ∀ c a w, Q (.panic c) (a.put oi.dst v) w → Q (.panic c) a w) (hS : SG S0 m1 A1 m2 A2 listed w) (hy : YieldsIf P ops (fun w => S0 w ∧ A1 w) oi v a)
    (h : wpG P md ops Q (SG S0 m1 A1 m2 A2) fuel (listed.setIfInBounds i true) (a.put oi.dst v) w) : wpG P md ops Q (SG S0 m1 A1 m2 A2) (fuel + 1) listed a w := by
  have hi' : ops[i]? = some oi := by rw [← Array.getElem?_toList]; exact hi
  refine wpG_first (G := fun l => l.getD m1 true = false) hi' (Region.noSelect_spec hs) hQ (SG.mono h1 h2) (fun l j hg hir hjr _ => ?_) fuel listed a w (Region.free_spec hi' hf) (by simpa using hr)
    (hy.imp (fun h => ⟨h.1, fun w ⟨_, hg, hw⟩ => h.2 w ⟨hw.1, hw.2.1 hg⟩⟩) id) hu hS (hS.set h1 h2) h
  rw [getD_set_ne true (waits_stays hw hir hjr)]
  exact hg
theorem wpG_take2 {i : Nat} {oi : Oper} {v : Value} {fuel : Nat} {listed : Array Bool} {a : Act} {w : World} (hi : ops.toList[i]? = some oi)
    (hs : Region.noSelect ops = true) (hf : Region.free md ops listed i = true) (hr : (Region.ready md ops listed).contains i = true) (h1 : i ≠ m1) (h2 : i ≠ m2) (hw : waits md ops m2 i = true) (hu : listed.getD m2 true = false)
    (hQ : ∀ c a w, Q (.panic c) (a.put oi.dst v) w → Q (.panic c) a w) (hS : SG S0 m1 A1 m2 A2 listed w) (hy : YieldsIf P ops (fun w => S0 w ∧ A2 w) oi v a)
    (h : wpG P md ops Q (SG S0 m1 A1 m2 A2) fuel (listed.setIfInBounds i true) (a.put oi.dst v) w) : wpG P md ops Q (SG S0 m1 A1 m2 A2) (fuel + 1) listed a w := by
  have hi' : ops[i]? = some oi := by rw [← Array.getElem?_toList]; exact hi
  refine wpG_first (G := fun l => l.getD m2 true = false) hi' (Region.noSelect_spec hs) hQ (SG.mono h1 h2) (fun l j hg hir hjr _ => ?_) fuel listed a w (Region.free_spec hi' hf) (by simpa using hr)
    (hy.imp (fun h => ⟨h.1, fun w ⟨_, hg, hw⟩ => h.2 w ⟨hw.1, hw.2.2 hg⟩⟩) id) hu hS (hS.set h1 h2) h
  rw [getD_set_ne true (waits_stays hw hir hjr)]
  exact hg
/-- Each of rs comes up next. -/
def RG (P : Program) (md : Region.Mode) (ops : Array Oper) (Q : Exit → Act → World → Prop) (S : Array Bool → World → Prop) (fuel : Nat) (listed : Array Bool) (a : Act) (w : World) (rs : List Nat) : Prop :=
  ∀ i ∈ rs, wpOp P ops Q i (fun a' w' => S (listed.setIfInBounds i true) w' ∧ wpG P md ops Q S fuel (listed.setIfInBounds i true) a' w') a w
theorem RG.nil {fuel : Nat} {listed : Array Bool} {a : Act} {w : World} : RG P md ops Q S fuel listed a w [] := fun _ h => by cases h
theorem RG.cons {fuel : Nat} {listed : Array Bool} {a : Act} {w : World} {i : Nat} {o : Oper} {rs : List Nat} (ho : ops.toList[i]? = some o) (hg : o.guard = none)
    (h : ∀ K' : Act → World → Prop, Shut (∀ a w, S (listed.setIfInBounds i true) w → (S (listed.setIfInBounds i true) w → wpG P md ops Q S fuel (listed.setIfInBounds i true) a w) → K' a w) → Oper.wp P o a w K' Q)
    (hs : RG P md ops Q S fuel listed a w rs) : RG P md ops Q S fuel listed a w (i :: rs) := fun j hj => by
  have ho' : ops[i]? = some o := by rw [← Array.getElem?_toList]; exact ho
  rcases List.mem_cons.1 hj with rfl | hj
  · refine wpOp_step ho' (fun K' hK => ?_)
    rw [if_pos (by simp [Region.wanted, hg])]
    exact h K' (fun a w hS hW => hK a w ⟨hS, hW hS⟩)
  · exact hs j hj
theorem wpG_ready {rs : List Nat} {fuel : Nat} {listed : Array Bool} {a : Act} {w : World} (hr : Region.ready md ops listed = rs) (hne : rs ≠ [])
    (h : RG P md ops Q S fuel listed a w rs) : wpG P md ops Q S (fuel + 1) listed a w := ⟨fun h0 => absurd (hr ▸ h0) hne, hr ▸ h⟩
theorem wpG_done {listed : Array Bool} {a : Act} {w : World} (hr : Region.ready md ops listed = []) (h : Q .normal a w) :
    ∀ fuel, wpG P md ops Q S fuel listed a w
  | 0 => ⟨hr, h⟩
  | _ + 1 => ⟨fun _ => h, by rw [hr]; simp⟩
theorem wp_region_G {id : Nat} {a : Act} {w : World} (hm : P.follows .mixedOrders = true) (hS : S (Array.replicate ops.size false) w.drew)
    (h : S (Array.replicate ops.size false) w.drew → wpG P .any ops Q S ops.size (Array.replicate ops.size false) a w.drew) : (Code.region id ops true).wp P Q a w :=
  wp_region_any hm (wpG_any _ _ _ _ (h hS))
end
section
variable {P : Program} {ops : Array Oper} {Q : Exit → Act → World → Prop} {md : Region.Mode} {S : Array Bool → World → Prop}
/-- The same of an operation whose guard holds. -/
theorem RG.consG {fuel : Nat} {listed : Array Bool} {a : Act} {w : World} {i : Nat} {o : Oper} {rs : List Nat} (ho : ops.toList[i]? = some o) (hg : Region.wanted o (yielded ops a.tmps) = true)
    (h : ∀ K' : Act → World → Prop, Shut (∀ a w, S (listed.setIfInBounds i true) w → (S (listed.setIfInBounds i true) w → wpG P md ops Q S fuel (listed.setIfInBounds i true) a w) → K' a w) → Oper.wp P o a w K' Q)
    (hs : RG P md ops Q S fuel listed a w rs) : RG P md ops Q S fuel listed a w (i :: rs) := fun j hj => by
  have ho' : ops[i]? = some o := by rw [← Array.getElem?_toList]; exact ho
  rcases List.mem_cons.1 hj with rfl | hj
  · refine wpOp_step ho' (fun K' hK => ?_)
    rw [if_pos hg]
    exact h K' (fun a w hS hW => hK a w ⟨hS, hW hS⟩)
  · exact hs j hj
end
theorem cnt_set : ∀ (l : List Bool) (i : Nat), l[i]? = some false → (l.set i true).count false + 1 = l.count false
  | [], _, h => by simp at h
  | b :: l, 0, h => by
    simp only [List.getElem?_cons_zero, Option.some.injEq] at h
    subst h
    simp
  | b :: l, i + 1, h => by
    have ih := cnt_set l i (by simpa using h)
    simp only [List.set_cons_succ, List.count_cons]
    omega
section
variable {P : Program} {ops : Array Oper} {Q : Exit → Act → World → Prop} {md : Region.Mode} {S : Array Bool → World → Prop}
/-- What holds of list, frame and world, whatever has come up, up to the list E. -/
theorem wpG_inv {Inv : Array Bool → Act → World → Prop} {E : Array Bool} {n : Nat}
    (hne : ∀ l a w, Inv l a w → l ≠ E → Region.ready md ops l ≠ [])
    (hstep : ∀ l a w, Inv l a w → l ≠ E → ∀ i ∈ Region.ready md ops l, wpOp P ops Q i (fun a' w' => S (l.setIfInBounds i true) w' ∧ Inv (l.setIfInBounds i true) a' w') a w)
    (hn : E.toList.count false = n) (hend : ∀ a w, Inv E a w → ∀ f, wpG P md ops Q S (f + n) E a w) :
    ∀ (fuel : Nat) (l : Array Bool) (a : Act) (w : World), Inv l a w → l.toList.count false ≤ fuel → wpG P md ops Q S fuel l a w := by
  intro fuel
  induction fuel with
  | zero =>
    intro l a w h hc
    by_cases he : l = E
    · subst he
      have := hend a w h 0
      rw [show 0 + n = 0 by omega] at this
      exact this
    · obtain ⟨i, hi⟩ := List.exists_mem_of_ne_nil _ (hne l a w h he)
      have h0 := (mem_ready.1 hi).1
      have h1 : l.toList[i]? = some false := by
        rcases Nat.lt_or_ge i l.size with h' | h'
        · simp [h'] at h0 ⊢
          exact h0
        · simp [Array.getElem?_eq_none h'] at h0
      have := cnt_set _ _ h1
      omega
  | succ fuel ih =>
    intro l a w h hc
    by_cases he : l = E
    · subst he
      have := hend a w h (fuel + 1 - n)
      rw [show fuel + 1 - n + n = fuel + 1 by omega] at this
      exact this
    · refine ⟨fun h0 => absurd h0 (hne l a w h he), fun i hi => ?_⟩
      have h0 := (mem_ready.1 hi).1
      have h1 : l.toList[i]? = some false := by
        rcases Nat.lt_or_ge i l.size with h' | h'
        · simp [h'] at h0 ⊢
          exact h0
        · simp [Array.getElem?_eq_none h'] at h0
      have h2 := cnt_set _ _ h1
      refine wpOp_mono (fun a' w' h3 => ⟨h3.1, ih _ a' w' h3.2 ?_⟩) (hstep l a w h he i hi)
      rw [Array.toList_setIfInBounds]
      omega
/-- One operation's step, its guard aside. -/
theorem op_step {K : Act → World → Prop} {a : Act} {w : World} {i : Nat} {o : Oper} (ho : ops.toList[i]? = some o) (hg : o.guard = none)
    (h : ∀ K' : Act → World → Prop, Shut (∀ a w, K a w → K' a w) → Oper.wp P o a w K' Q) : wpOp P ops Q i K a w := by
  have ho' : ops[i]? = some o := by rw [← Array.getElem?_toList]; exact ho
  refine wpOp_step ho' (fun K' hK => ?_)
  rw [if_pos (by simp [Region.wanted, hg])]
  exact h K' hK
end
end Vm
end Go.Proofs.YtbjlhdjcdinmhaaDoor
