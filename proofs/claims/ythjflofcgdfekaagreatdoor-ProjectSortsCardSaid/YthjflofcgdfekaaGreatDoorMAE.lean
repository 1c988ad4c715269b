import Derived.Test.YthjflofcgdfekaaGreatDoorBase
import Derived.Deep.RegionHeld3
import Derived.BigQuiet
import Derived.Test.YthjflofcgdfekaaGreatDoorMAD
import Derived.WalkArith
namespace Go.Proofs.YthjflofcgdfekaaGreatDoor
open Go.RowKit Go.Op
namespace Vm
section
variable {P : Program} {ops : Array Oper} {Q : Exit → Act → World → Prop} {md : Region.Mode} {S : Array Bool → World → Prop}
def wpG (P : Program) (md : Region.Mode) (ops : Array Oper) (Q : Exit → Act → World → Prop) (S : Array Bool → World → Prop) : Nat → Array Bool → Act → World → Prop
  | 0, listed, a, w => Region.ready md ops listed = [] ∧ Q .normal a w
  | fuel + 1, listed, a, w =>
    (Region.ready md ops listed = [] → Q .normal a w) ∧
    ∀ i ∈ Region.ready md ops listed, wpOp P ops Q i (fun a' w' => S (listed.setIfInBounds i true) w' ∧ wpG P md ops Q S fuel (listed.setIfInBounds i true) a' w') a w
theorem wpG_any : ∀ (fuel : Nat) (listed : Array Bool) (a : Act) (w : World), wpG P md ops Q S fuel listed a w → wpAny P md ops Q fuel listed a w
  | 0, _, _, _, h => h
  | fuel + 1, _, _, _, h => ⟨h.1, fun i hi => wpOp_mono (fun a' w' h' => wpG_any fuel _ a' w' h'.2) (h.2 i hi)⟩
theorem wpG_first {i : Nat} {oi : Oper} {v : Value} {G : Array Bool → Prop} (hi : ops[i]? = some oi) (hsel : ∀ (j : Nat) (o : Oper) cs b, ops[j]? = some o → o.op ≠ .select cs b)
    (hQ : ∀ c a w, Q (.panic c) (a.put oi.dst v) w → Q (.panic c) a w) (hmono : ∀ l w, S (l.setIfInBounds i true) w → S l w)
    (hG : ∀ l j, G l → i ∈ Region.ready md ops l → j ∈ Region.ready md ops l → j ≠ i → G (l.setIfInBounds j true)) :
    ∀ (fuel : Nat) (listed : Array Bool) (a : Act) (w : World),
      (∀ j oj, ops[j]? = some oj → j ≠ i → listed.getD j true = false → (∀ e ∈ oj.after, Region.binds md e = true → e.on ≠ i) → oi.apart ops oj = true) →
      i ∈ Region.ready md ops listed → YieldsIf P ops (fun w => ∃ l, G l ∧ S l w) oi v a → G listed → S listed w → S (listed.setIfInBounds i true) w →
      wpG P md ops Q S fuel (listed.setIfInBounds i true) (a.put oi.dst v) w → wpG P md ops Q S (fuel + 1) listed a w := by
  intro fuel
  induction fuel with
  | zero =>
    intro listed a w _ hr hy hg hS hS' H
    refine ⟨fun h => (by rw [h] at hr; cases hr), fun j hj => ?_⟩
    by_cases hji : j = i
    · subst hji; exact hy.wpOp hi ⟨_, hg, hS⟩ ⟨hS', H⟩
    · have := ready_mono hj hji
      rw [H.1] at this
      cases this
  | succ fuel ih =>
    intro listed a w hfree hr hy hg hS hS' H
    refine ⟨fun h => (by rw [h] at hr; cases hr), fun j hj => ?_⟩
    by_cases hji : j = i
    · subst hji; exact hy.wpOp hi ⟨_, hg, hS⟩ ⟨hS', H⟩
    · have h1 := H.2 j (ready_mono hj hji)
      obtain ⟨hjun, oj, hoj, hall⟩ := mem_ready.1 hj
      have hnot : ∀ e ∈ oj.after, Region.binds md e = true → e.on ≠ i := fun e he hb heq => by
        have h1 := hall e he hb
        have h0 := (mem_ready.1 hr).1
        rw [heq] at h1
        rcases Nat.lt_or_ge i listed.size with h' | h'
        · simp [h'] at h0 h1; rw [h0] at h1; cases h1
        · simp [Array.getElem?_eq_none h'] at h1
      have h2 := wpOp_putIf hoj (hfree j oj hoj hji hjun hnot) (fun cs b => hsel i oi cs b hi) (fun cs b => hsel j oj cs b hoj) hQ hy h1
      have hfree' : ∀ k ok, ops[k]? = some ok → k ≠ i → (listed.setIfInBounds j true).getD k true = false →
          (∀ e ∈ ok.after, Region.binds md e = true → e.on ≠ i) → oi.apart ops ok = true := fun k ok hk hki hun hno => by
        refine hfree k ok hk hki ?_ hno
        by_cases hjk : j = k
        · subst hjk; exact hjun
        · rw [getD_set_ne true hjk] at hun; exact hun
      refine wpOp_mono (fun a' w' h3 => ?_) h2
      have hs := h3.2.1
      rw [Array.setIfInBounds_comm _ _ (Ne.symm hji)] at hs
      have hs2 := hmono _ _ hs
      refine ⟨hs2, ih (listed.setIfInBounds j true) a' w' hfree' (ready_mono hr (Ne.symm hji)) h3.1 (hG _ _ hg hr hj hji) hs2 hs ?_⟩
      rw [Array.setIfInBounds_comm _ _ hji]
      exact h3.2.2
def SG (S0 : World → Prop) (m1 : Nat) (A1 : World → Prop) (m2 : Nat) (A2 : World → Prop) (l : Array Bool) (w : World) : Prop := S0 w ∧ (l.getD m1 true = false → A1 w) ∧ (l.getD m2 true = false → A2 w)
variable {S0 A1 A2 : World → Prop} {m1 m2 : Nat}
theorem SG.mono {i : Nat} (h1 : i ≠ m1) (h2 : i ≠ m2) (l : Array Bool) (w : World) (h : SG S0 m1 A1 m2 A2 (l.setIfInBounds i true) w) : SG S0 m1 A1 m2 A2 l w := by
  unfold SG at *
  rw [getD_set_ne true h1, getD_set_ne true h2] at h
  exact h
theorem SG.set {i : Nat} {l : Array Bool} {w : World} (h1 : i ≠ m1) (h2 : i ≠ m2) (h : SG S0 m1 A1 m2 A2 l w) : SG S0 m1 A1 m2 A2 (l.setIfInBounds i true) w := by
  unfold SG at *
  rw [getD_set_ne true h1, getD_set_ne true h2]
  exact h
theorem wpG_take0 {i : Nat} {oi : Oper} {v : Value} {fuel : Nat} {listed : Array Bool} {a : Act} {w : World} (hi : ops.toList[i]? = some oi)
    (hs : Region.noSelect ops = true) (hf : Region.free md ops listed i = true) (hr : (Region.ready md ops listed).contains i = true) (h1 : i ≠ m1) (h2 : i ≠ m2)
    (hQ : ∀ c a w, Q (.panic c) (a.put oi.dst v) w → Q (.panic c) a w) (hS : SG S0 m1 A1 m2 A2 listed w) (hy : YieldsIf P ops S0 oi v a)
    (h : wpG P md ops Q (SG S0 m1 A1 m2 A2) fuel (listed.setIfInBounds i true) (a.put oi.dst v) w) : wpG P md ops Q (SG S0 m1 A1 m2 A2) (fuel + 1) listed a w := by
  have hi' : ops[i]? = some oi := by rw [← Array.getElem?_toList]; exact hi
  exact wpG_first (G := fun _ => True) hi' (Region.noSelect_spec hs) hQ (SG.mono h1 h2) (fun _ _ _ _ _ _ => trivial) fuel listed a w (Region.free_spec hi' hf) (by simpa using hr)
    (hy.imp (fun h => ⟨h.1, fun w ⟨_, _, hw⟩ => h.2 w hw.1⟩) id) trivial hS (hS.set h1 h2) h
def waits (md : Region.Mode) (ops : Array Oper) (m i : Nat) : Bool := match ops[m]? with
  | some o => o.after.any fun e => Region.binds md e && e.on == i
  | none => false
theorem waits_stays {m i j : Nat} (hw : waits md ops m i = true) {l : Array Bool} (hi : i ∈ Region.ready md ops l) (hj : j ∈ Region.ready md ops l) : j ≠ m := by
  rintro rfl
  obtain ⟨_, o, ho, hall⟩ := mem_ready.1 hj
  unfold waits at hw
  rw [ho] at hw
  simp only [Array.any_eq_true] at hw
  obtain ⟨k, hk, he⟩ := hw
  rw [Bool.and_eq_true, beq_iff_eq] at he
  have h1 := hall _ (Array.getElem_mem hk) he.1
  rw [he.2] at h1
  have h0 := (mem_ready.1 hi).1
  rcases Nat.lt_or_ge i l.size with h' | h'
  · simp [h'] at h0 h1; rw [h0] at h1; cases h1
  · simp [Array.getElem?_eq_none h'] at h1
theorem wpG_take1 {i : Nat} {oi : Oper} {v : Value} {fuel : Nat} {listed : Array Bool} {a : Act} {w : World} (hi : ops.toList[i]? = some oi)
    (hs : Region.noSelect ops = true) (hf : Region.free md ops listed i = true) (hr : (Region.ready md ops listed).contains i = true) (h1 : i ≠ m1) (h2 : i ≠ m2) (hw : waits md ops m1 i = true) (hu : listed.getD m1 true = false)
    (hQ : ∀ c a w, Q (.panic c) (a.put oi.dst v) w → Q (.panic c) a w) (hS : SG S0 m1 A1 m2 A2 listed w) (hy : YieldsIf P ops (fun w => S0 w ∧ A1 w) oi v a)
    (h : wpG P md ops Q (SG S0 m1 A1 m2 A2) fuel (listed.setIfInBounds i true) (a.put oi.dst v) w) : wpG P md ops Q (SG S0 m1 A1 m2 A2) (fuel + 1) listed a w := by
  have hi' : ops[i]? = some oi := by rw [← Array.getElem?_toList]; exact hi
  refine wpG_first (G := fun l => l.getD m1 true = false) hi' (Region.noSelect_spec hs) hQ (SG.mono h1 h2) (fun l j hg hir hjr _ => ?_) fuel listed a w (Region.free_spec hi' hf) (by simpa using hr)
    (hy.imp (fun h => ⟨h.1, fun w ⟨_, hg, hw⟩ => h.2 w ⟨hw.1, hw.2.1 hg⟩⟩) id) hu hS (hS.set h1 h2) h
  rw [getD_set_ne true (waits_stays hw hir hjr)]
  exact hg
theorem pL : (∀ (a : Act) (d : Nat) (v : Value), a.put (some d) v = ⟨a.tmps.setIfInBounds d v, a.defers⟩) ∧ (∀ (a : Act) (v : Value), a.put none v = a) ∧ (∀ {α : Type} (xs : List α) (i : Nat) (x : α), xs.toArray.setIfInBounds i x = (xs.set i x).toArray) ∧ (∀ {α : Type} (y : α) (xs : List α) (x : α), (y :: xs).set 0 x = x :: xs) ∧ (∀ {α : Type} (y : α) (xs : List α) (i : Nat) (x : α), (y :: xs).set (i + 1) x = y :: xs.set i x) :=
  ⟨fun _ _ _ => rfl, fun _ _ => rfl, fun _ _ _ => List.setIfInBounds_toArray .., fun _ _ _ => rfl, fun _ _ _ _ => rfl⟩
theorem wpG_t0 {i : Nat} {oi : Oper} {v : Value} {fuel : Nat} {listed : Array Bool} {a : Act} {w : World} (hi : ops.toList[i]? = some oi)
    (hb : (Region.noSelect ops && Region.free md ops listed i && (Region.ready md ops listed).contains i && decide (i ≠ m1) && decide (i ≠ m2)) = true)
    (hQ : ∀ c a w, Q (.panic c) (a.put oi.dst v) w → Q (.panic c) a w) (hS : SG S0 m1 A1 m2 A2 listed w) (hy : YieldsIf P ops S0 oi v a)
    (h : wpG P md ops Q (SG S0 m1 A1 m2 A2) fuel (listed.setIfInBounds i true) (a.put oi.dst v) w) : wpG P md ops Q (SG S0 m1 A1 m2 A2) (fuel + 1) listed a w := by
  simp only [Bool.and_eq_true, decide_eq_true_eq] at hb
  exact wpG_take0 hi hb.1.1.1.1 hb.1.1.1.2 hb.1.1.2 hb.1.2 hb.2 hQ hS hy h
theorem wpG_t1 {i : Nat} {oi : Oper} {v : Value} {fuel : Nat} {listed : Array Bool} {a : Act} {w : World} (hi : ops.toList[i]? = some oi)
    (hb : (Region.noSelect ops && Region.free md ops listed i && (Region.ready md ops listed).contains i && decide (i ≠ m1) && decide (i ≠ m2) && waits md ops m1 i && !(listed.getD m1 true)) = true)
    (hQ : ∀ c a w, Q (.panic c) (a.put oi.dst v) w → Q (.panic c) a w) (hS : SG S0 m1 A1 m2 A2 listed w) (hy : YieldsIf P ops (fun w => S0 w ∧ A1 w) oi v a)
    (h : wpG P md ops Q (SG S0 m1 A1 m2 A2) fuel (listed.setIfInBounds i true) (a.put oi.dst v) w) : wpG P md ops Q (SG S0 m1 A1 m2 A2) (fuel + 1) listed a w := by
  simp only [Bool.and_eq_true, decide_eq_true_eq, Bool.not_eq_true'] at hb
  exact wpG_take1 hi hb.1.1.1.1.1.1 hb.1.1.1.1.1.2 hb.1.1.1.1.2 hb.1.1.1.2 hb.1.1.2 hb.1.2 hb.2 hQ hS hy h
def RG (P : Program) (md : Region.Mode) (ops : Array Oper) (Q : Exit → Act → World → Prop) (S : Array Bool → World → Prop) (fuel : Nat) (listed : Array Bool) (a : Act) (w : World) (rs : List Nat) : Prop :=
  ∀ i ∈ rs, wpOp P ops Q i (fun a' w' => S (listed.setIfInBounds i true) w' ∧ wpG P md ops Q S fuel (listed.setIfInBounds i true) a' w') a w
theorem RG.nil {fuel : Nat} {listed : Array Bool} {a : Act} {w : World} : RG P md ops Q S fuel listed a w [] := fun _ h => by cases h
theorem RG.cons {fuel : Nat} {listed : Array Bool} {a : Act} {w : World} {i : Nat} {o : Oper} {rs : List Nat} (ho : ops.toList[i]? = some o) (hg : o.guard = none)
    (h : ∀ K' : Act → World → Prop, Shut (∀ a w, S (listed.setIfInBounds i true) w → (S (listed.setIfInBounds i true) w → wpG P md ops Q S fuel (listed.setIfInBounds i true) a w) → K' a w) → Oper.wp P o a w K' Q)
    (hs : RG P md ops Q S fuel listed a w rs) : RG P md ops Q S fuel listed a w (i :: rs) := fun j hj => by
  have ho' : ops[i]? = some o := by rw [← Array.getElem?_toList]; exact ho
  rcases List.mem_cons.1 hj with rfl | hj
  · refine wpOp_step ho' (fun K' hK => ?_)
    rw [if_pos (by simp [Region.wanted, hg])]
    exact h K' (fun a w hS hW => hK a w ⟨hS, hW hS⟩)
  · exact hs j hj
theorem wpG_ready {rs : List Nat} {fuel : Nat} {listed : Array Bool} {a : Act} {w : World} (hr : Region.ready md ops listed = rs) (hne : rs ≠ [])
    (h : RG P md ops Q S fuel listed a w rs) : wpG P md ops Q S (fuel + 1) listed a w := ⟨fun h0 => absurd (hr ▸ h0) hne, hr ▸ h⟩
theorem wpG_done {listed : Array Bool} {a : Act} {w : World} (hr : Region.ready md ops listed = []) (h : Q .normal a w) :
    ∀ fuel, wpG P md ops Q S fuel listed a w
  | 0 => ⟨hr, h⟩
  | _ + 1 => ⟨fun _ => h, by rw [hr]; simp⟩
theorem wp_region_G {id : Nat} {a : Act} {w : World} (hm : P.follows .mixedOrders = true) (hS : S (Array.replicate ops.size false) w.drew)
    (h : S (Array.replicate ops.size false) w.drew → wpG P .any ops Q S ops.size (Array.replicate ops.size false) a w.drew) : (Code.region id ops true).wp P Q a w :=
  wp_region_any hm (wpG_any _ _ _ _ (h hS))
end
section
variable {P : Program} {ops : Array Oper} {Q : Exit → Act → World → Prop} {md : Region.Mode} {S : Array Bool → World → Prop}
end
section
variable {P : Program} {ops : Array Oper} {Q : Exit → Act → World → Prop} {md : Region.Mode} {S : Array Bool → World → Prop}
end
end Vm
end Go.Proofs.YthjflofcgdfekaaGreatDoor
namespace Go.Proofs.YthjflofcgdfekaaGreatDoor
open Go.RowKit Go.Op
namespace Sc
open Vm
def WS (X : Wc) (w : World) (K : Nat → Prop) (hv : Option Nat) (s : St) (N : Nat) : Prop := ∃ v1 v2 v3 v4 nm nh, WSr X w K hv s N v1 v2 v3 v4 nm nh
def Ans (X : Wc) (w : World) (K : Nat → Prop) (hv : Option Nat) (t : St) (N : Nat) (e : Ending) (w' : World) : Prop := e = .returned (.tuple #[]) ∧ ∃ K', WS X w' K' hv t N ∧ Gx K w K' w'
set_option maxHeartbeats 8000000 in
set_option maxRecDepth 100000 in
theorem wrong_any {X : Wc} {w : World} {K : Nat → Prop} {hv : Option Nat} {s : St} {N nm nh : Nat} {v1 v2 v3 v4 : Value} (h : WSr X w K hv s N v1 v2 v3 v4 nm nh) (n : Hi) (A : Option Addr) (k c : Nat) (er : Int) (hN : N ≤ 1000000000) :
    Calls Tryz.prog 173 #[X.p, hvv n A k c, .int .i64 er] w (Ans X w K hv (s.wrong n.at_ er) (N + 1)) := by
  have h1 := h.alloc (.cells (hcc n A k c) 38)
  have RB := RowB.new w 38 (hcc n A k c)
  have H1 := Lib.hid h1
  have G1 := Lib.hid (Gx.alloc K w (.cells (hcc n A k c) 38))
  have HR := Lib.hid RB
  obtain ⟨b, mb, B⟩ := X
  simp only [hcc] at *
  clear h h1 RB
  go_enter Tryz.func173, Tryz.ntmps173
  go_wp2_with fail
  obtain ⟨W1, hW1⟩ : ∃ W1, W1 = w.alloc (.cells (#[.int .i64 n.kind, .int .i64 n.fro, .int .i64 n.til, .string n.word, .int .i64 n.at_, .slice A k c] : Array Value) 38) := ⟨_, rfl⟩
  rw [← hW1] at H1 G1 HR ⊢
  clear hW1
  obtain ⟨bx, hbx⟩ : ∃ bx, bx = w.heap.size := ⟨_, rfl⟩
  rw [← hbx] at HR ⊢
  clear hbx
  refine wp_region_G (S := SG (fun _ => True) 15 (fun w' => RowB w' b 189 (wcc v1 v2 v3 v4 mb hv s.lam s.item) ∧ RowB w' bx 38 #[.int .i64 n.kind, .int .i64 n.fro, .int .i64 n.til, .string n.word, .int .i64 n.at_, .slice A k c]) 99 (fun _ => True)) (by kernel_rfl) ⟨trivial, fun _ => ⟨H1.out.row, HR.out⟩, fun _ => trivial⟩ (fun hS => ?_)
  obtain ⟨WD, hWD⟩ : ∃ WD, WD = W1.drew := ⟨_, rfl⟩
  have H1 := Lib.hid (H1.out.drew)
  have G1 := Lib.hid (G1.out.trans (Gx.drew _ W1))
  replace HR := Lib.hid (show RowB W1.drew _ _ _ from HR.out)
  rw [← hWD] at hS H1 G1 HR ⊢
  clear hWD
  refine wpG_t1 (i := 0) (v := ?v1) rfl (by kernel_rfl) (fun _ _ _ h => h) hS (Or.inl ⟨by rfl, ?hy1⟩) ?rest1
  case hy1 => (intro w' hw; obtain ⟨_, q1, q2⟩ := hw; have u0 := q1.cell; have u1 := q2.cell; go_simp; try with_reducible rfl)
  replace hS := SG.set (i := 0) (by decide) (by decide) hS
  try simp only [pL]
  refine wpG_t1 (i := 1) (v := ?v2) rfl (by kernel_rfl) (fun _ _ _ h => h) hS (Or.inl ⟨by rfl, ?hy2⟩) ?rest2
  case hy2 => (intro w' hw; obtain ⟨_, q1, q2⟩ := hw; have u0 := q1.cell; have u1 := q2.cell; go_simp; try with_reducible rfl)
  replace hS := SG.set (i := 1) (by decide) (by decide) hS
  try simp only [pL]
  refine wpG_t1 (i := 2) (v := ?v3) rfl (by kernel_rfl) (fun _ _ _ h => h) hS (Or.inl ⟨by rfl, ?hy3⟩) ?rest3
  case hy3 => (intro w' hw; obtain ⟨_, q1, q2⟩ := hw; have u0 := q1.cell; have u1 := q2.cell; go_simp; try with_reducible rfl)
  replace hS := SG.set (i := 2) (by decide) (by decide) hS
  try simp only [pL]
  refine wpG_t1 (i := 3) (v := ?v4) rfl (by kernel_rfl) (fun _ _ _ h => h) hS (Or.inl ⟨by rfl, ?hy4⟩) ?rest4
  case hy4 => (intro w' hw; obtain ⟨_, q1, q2⟩ := hw; have u0 := q1.cell; have u1 := q2.cell; go_simp; try with_reducible rfl)
  replace hS := SG.set (i := 3) (by decide) (by decide) hS
  try simp only [pL]
  refine wpG_t1 (i := 4) (v := ?v5) rfl (by kernel_rfl) (fun _ _ _ h => h) hS (Or.inl ⟨by rfl, ?hy5⟩) ?rest5
  case hy5 => (intro w' hw; obtain ⟨_, q1, q2⟩ := hw; have u0 := q1.cell; have u1 := q2.cell; go_simp; try with_reducible rfl)
  replace hS := SG.set (i := 4) (by decide) (by decide) hS
  try simp only [pL]
  refine wpG_t1 (i := 5) (v := ?v6) rfl (by kernel_rfl) (fun _ _ _ h => h) hS (Or.inl ⟨by rfl, ?hy6⟩) ?rest6
  case hy6 => (intro w' hw; obtain ⟨_, q1, q2⟩ := hw; have u0 := q1.cell; have u1 := q2.cell; go_simp; try with_reducible rfl)
  replace hS := SG.set (i := 5) (by decide) (by decide) hS
  try simp only [pL]
  refine wpG_t1 (i := 6) (v := ?v7) rfl (by kernel_rfl) (fun _ _ _ h => h) hS (Or.inl ⟨by rfl, ?hy7⟩) ?rest7
  case hy7 => (intro w' hw; obtain ⟨_, q1, q2⟩ := hw; have u0 := q1.cell; have u1 := q2.cell; go_simp; try with_reducible rfl)
  replace hS := SG.set (i := 6) (by decide) (by decide) hS
  try simp only [pL]
  refine wpG_t1 (i := 7) (v := ?v8) rfl (by kernel_rfl) (fun _ _ _ h => h) hS (Or.inl ⟨by rfl, ?hy8⟩) ?rest8
  case hy8 => (intro w' hw; obtain ⟨_, q1, q2⟩ := hw; have u0 := q1.cell; have u1 := q2.cell; go_simp; try with_reducible rfl)
  replace hS := SG.set (i := 7) (by decide) (by decide) hS
  try simp only [pL]
  refine wpG_t1 (i := 8) (v := ?v9) rfl (by kernel_rfl) (fun _ _ _ h => h) hS (Or.inl ⟨by rfl, ?hy9⟩) ?rest9
  case hy9 => (intro w' hw; obtain ⟨_, q1, q2⟩ := hw; have u0 := q1.cell; have u1 := q2.cell; go_simp; try with_reducible rfl)
  replace hS := SG.set (i := 8) (by decide) (by decide) hS
  try simp only [pL]
  refine wpG_t1 (i := 9) (v := ?v10) rfl (by kernel_rfl) (fun _ _ _ h => h) hS (Or.inl ⟨by rfl, ?hy10⟩) ?rest10
  case hy10 => (intro w' hw; obtain ⟨_, q1, q2⟩ := hw; have u0 := q1.cell; have u1 := q2.cell; go_simp; try with_reducible rfl)
  replace hS := SG.set (i := 9) (by decide) (by decide) hS
  try simp only [pL]
  clear hS
  have H2 := Lib.hid (H1.out.alloc (.cells #[.int .i64 n.at_, .int .i64 er] 174))
  have G2 := Lib.hid (G1.out.trans (Gx.alloc _ WD (.cells #[.int .i64 n.at_, .int .i64 er] 174)))
  have RN := Lib.hid (RowB.new WD 174 #[.int .i64 n.at_, .int .i64 er])
  have HR2 := Lib.hid (HR.out.alloc (.cells #[.int .i64 n.at_, .int .i64 er] 174))
  refine wpG_ready (rs := [10]) (by kernel_rfl) (by simp) ?_
  refine RG.cons rfl rfl (fun K' hK => ?_) RG.nil
  go_simp
  refine hK.out _ _ ⟨trivial, fun _ => ⟨H2.out.row, HR2.out⟩, fun _ => trivial⟩ (fun hS => ?_)
  clear hK K'
  try simp only [pL]
  clear hS
  obtain ⟨W2, hW2⟩ : ∃ W2, W2 = WD.alloc (.cells #[.int .i64 n.at_, .int .i64 er] 174) := ⟨_, rfl⟩
  rw [← hW2] at H2 G2 RN HR2 ⊢
  obtain ⟨v', W3, hr, ho, hg, hl⟩ := app_at (w := W2) (t := 48) (e := 174) (size := 2) (bytes := 16) (z := .agg #[.int .i64 0, .int .i64 0]) Tryz.underlying48 (by kernel_rfl) rfl (by decide) (by decide) B v3 _ _ H2.out.o3 _ _ RN.out rfl (by intro u hu; simp at hu; rcases hu with rfl | rfl <;> rfl) (by have := H2.out.sum; omega) (by have := (H2.out.lt _ H2.out.kb); simp only at this; omega) 48
  have r3 : RowB W3 b 189 (wcc v1 v2 v3 v4 mb hv s.lam s.item) := (hg.block _ H2.out.row.lt (fun e => own_ne_row H2.out.o3 H2.out.row (by decide) e.symm)).trans H2.out.row
  have b3 : RowB W3 bx 38 #[.int .i64 n.kind, .int .i64 n.fro, .int .i64 n.til, .string n.word, .int .i64 n.at_, .slice A k c] := (hg.block _ HR2.out.lt (fun e => own_ne_row H2.out.o3 HR2.out (by decide) e.symm)).trans HR2.out
  have FIN := Lib.hid (H2.out.app3 (x := (n.at_, er)) ho hg hl)
  obtain ⟨A', c', rfl, _⟩ := own_shape ho
  have R3 := Lib.hid r3
  have B3 := Lib.hid b3
  clear ho hg hl r3 b3 hW2 H2 HR2 RN
  refine wpG_ready (rs := [11]) (by kernel_rfl) (by simp) ?_
  refine RG.cons rfl rfl (fun K' hK => ?_) RG.nil
  refine wp_append_run (.tmp 11) (.tmp 16) 48 (by rfl) (by rfl) (by rfl) hr ?_
  refine hK.out _ _ ⟨trivial, fun _ => ⟨R3.out, B3.out⟩, fun _ => trivial⟩ (fun hS => ?_)
  clear hK K'
  try simp only [pL]
  clear hr
  refine wpG_t0 (i := 12) (v := ?v11) rfl (by kernel_rfl) (fun _ _ _ h => h) hS (Or.inl ⟨by rfl, ?hy11⟩) ?rest11
  case hy11 => (intro w' hw; go_simp; try with_reducible rfl)
  replace hS := SG.set (i := 12) (by decide) (by decide) hS
  try simp only [pL]
  refine wpG_t0 (i := 13) (v := ?v12) rfl (by kernel_rfl) (fun _ _ _ h => h) hS (Or.inl ⟨by rfl, ?hy12⟩) ?rest12
  case hy12 => (intro w' hw; go_simp; try with_reducible rfl)
  replace hS := SG.set (i := 13) (by decide) (by decide) hS
  try simp only [pL]
  refine wpG_t0 (i := 14) (v := ?v13) rfl (by kernel_rfl) (fun _ _ _ h => h) hS (Or.inl ⟨by rfl, ?hy13⟩) ?rest13
  case hy13 => (intro w' hw; go_simp; try with_reducible rfl)
  replace hS := SG.set (i := 14) (by decide) (by decide) hS
  try simp only [pL]
  clear hS
  have yc := R3.out.cell
  have yt := R3.out.thaw
  refine wpG_ready (rs := [15]) (by kernel_rfl) (by simp) ?_
  refine RG.cons rfl rfl (fun K' hK => ?_) RG.nil
  go_simp
  refine hK.out _ _ ⟨trivial, fun h => absurd (h : true = false) (by decide), fun _ => trivial⟩ (fun hS => ?_)
  clear hK K'
  try simp only [pL]
  clear hS yc yt R3
  refine wpG_done (by kernel_rfl) ?_ _
  go_end0
  exact ⟨rfl, _, ⟨_, _, _, _, _, _, FIN.out.1⟩, G2.out.trans FIN.out.2⟩
end Sc
end Go.Proofs.YthjflofcgdfekaaGreatDoor
namespace Go.Proofs.YthjflofcgdfekaaGreatDoor
open Go.RowKit Go.Op
namespace Sc
open Vm
theorem wfI {v : Int} (h1 : -9223372036854775808 ≤ v) (h2 : v ≤ 9223372036854775807) : (Lit.int .i64 v).wf = true := by
  exact WalkArith.wf_i64 ⟨h1, h2⟩
theorem MM.put {w1 : World} {b n : Nat} {f : ByteArray → Int} {g : ByteArray → Option Int} (hg : ∀ x, (g x).getD (-1) = f x) {x : ByteArray} {v : Int} (h : MF w1 b (n + 1) (up g x (some v))) : MM w1 b (n + 1) (up f x v) := by
  refine ⟨_, h, fun y => ?_⟩
  unfold up
  split
  · rfl
  · exact hg y
theorem bind_eq (a : Int) (word : ByteArray) (kind : Int) (s s0 s1 s2 s3 : St) (h0 : s0 = bind0 a word s) (h1 : s1 = { s0 with means := up s0.means word s0.bs.length }) (h2 : s2 = { s1 with within := s1.within ++ [s1.lam] }) (h3 : s3 = { s2 with bs := s2.bs ++ [⟨a, kind, word, s2.item⟩] }) : s3 = bind a word kind s := by
  subst h3 h2 h1 h0
  unfold bind bind0
  split <;> rfl
end Sc
end Go.Proofs.YthjflofcgdfekaaGreatDoor
