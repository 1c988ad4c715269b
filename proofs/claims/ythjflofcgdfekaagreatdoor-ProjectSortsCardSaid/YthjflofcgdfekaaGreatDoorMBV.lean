import Derived.Test.YthjflofcgdfekaaGreatDoorMBR
import Derived.Test.YthjflofcgdfekaaGreatDoorMBU
namespace Go.Proofs.YthjflofcgdfekaaGreatDoor
open Go.RowKit Go.Op Go.Shelf
namespace Pj
open Sc Od Og Su It
open Sb (RowAt)
attribute [local go_sem] Oper.semAt_some
def isD (s : ByteArray) (x : Bd) : Prop := x.kind = 2 ∧ x.word = s
inductive LastD (bs : List Bd) (s : ByteArray) : Int → Prop
  | none (h : ∀ (q : Nat) (x : Bd), bs[q]? = some x → ¬ isD s x) : LastD bs s (-1)
  | some (i : Nat) (x : Bd) (hx : bs[i]? = some x) (hd : isD s x) (h : ∀ (q : Nat) (y : Bd), i < q → bs[q]? = some y → ¬ isD s y) : LastD bs s (i : Int)
theorem fromB_get {zs : List Bd} {k : Nat} (h : k < zs.length) : zs[zs.length - 1 - k]? = some (fromB zs k).2 ∧ (fromB zs k).1 = zs.length - 1 - k := by
  have : zs[zs.length - 1 - k]? = some (zs[zs.length - 1 - k]'(by omega)) := List.getElem?_eq_getElem _
  refine ⟨?_, rfl⟩
  unfold fromB
  rw [this]
  rfl
set_option maxRecDepth 100000 in
set_option maxHeartbeats 8000000 in
theorem last_in (n : Nat) (hn : 3 ≤ n) (u : Un) (s : ByteArray) (bs : List Bd) (w : World) (hr : RowAt w 0 w.heap.size bdC 4 u.A1 bs) (h1 : u.n1 = bs.length) (hl : bs.length ≤ 1000000000) :
    CallsIn Fence.wide n Tryz.prog 57 #[.agg (unC u).toArray, .string s] w fun e w' => ∃ i, LastD bs s i ∧ e = .returned (.int .i64 i) ∧ Below w.heap.size w w' := by
  obtain ⟨xn, xx, xA, xln, xcp, xkd, xfr, xtl, xwd, xat, xB, xkl, xkc, xA1, xn1, xc1, xA2, xn2, xc2, xA3, xn3, xc3, xbad, xab⟩ := u
  simp only at hr h1
  simp only [unC]
  subst h1
  have h1n : 1 ≤ n := by omega
  have h95 : Fence.wide.fn 95 := trivial
  obtain ⟨W0, hW0⟩ : ∃ W0, W0 = (((w.alloc (.cells #[.string xn, .string xx, .slice xA xln xcp, .int .i64 xkd, .int .i64 xfr, .int .i64 xtl, .string xwd, .int .i64 xat, .slice xB xkl xkc, .slice xA1 bs.length xc1, .slice xA2 xn2 xc2, .slice xA3 xn3 xc3, .int .i64 xbad, .int .i64 xab] 52)).alloc (.cells #[.string s] 9)).alloc (.cells #[.int .i64 0] 3)).alloc (.cells #[.slice xA1 bs.length xc1] 46) := ⟨_, rfl⟩
  have hs0 : W0.heap.size = w.heap.size + 4 := by rw [hW0]; simp
  have hB0 : Below w.heap.size w W0 := by rw [hW0]; exact (((belA w _).alloc (by simp) _).alloc (by simp; omega) _).alloc (by simp; omega) _
  have b1 : Boxed W0 (w.heap.size + 1) 9 (.string s) := by
    have := Boxed.new (w.alloc (.cells #[.string xn, .string xx, .slice xA xln xcp, .int .i64 xkd, .int .i64 xfr, .int .i64 xtl, .string xwd, .int .i64 xat, .slice xB xkl xkc, .slice xA1 bs.length xc1, .slice xA2 xn2 xc2, .slice xA3 xn3 xc3, .int .i64 xbad, .int .i64 xab] 52)) 9 (.string s)
    rw [World.size_alloc] at this
    rw [hW0]
    exact (this.alloc _).alloc _
  have b2 : Boxed W0 (w.heap.size + 2) 3 (.int .i64 0) := by
    have := Boxed.new ((w.alloc (.cells #[.string xn, .string xx, .slice xA xln xcp, .int .i64 xkd, .int .i64 xfr, .int .i64 xtl, .string xwd, .int .i64 xat, .slice xB xkl xkc, .slice xA1 bs.length xc1, .slice xA2 xn2 xc2, .slice xA3 xn3 xc3, .int .i64 xbad, .int .i64 xab] 52)).alloc (.cells #[.string s] 9)) 3 (.int .i64 0)
    rw [World.size_alloc, World.size_alloc] at this
    rw [hW0]
    exact this.alloc _
  have b3 : Boxed W0 (w.heap.size + 3) 46 (.slice xA1 bs.length xc1) := by
    have := Boxed.new (((w.alloc (.cells #[.string xn, .string xx, .slice xA xln xcp, .int .i64 xkd, .int .i64 xfr, .int .i64 xtl, .string xwd, .int .i64 xat, .slice xB xkl xkc, .slice xA1 bs.length xc1, .slice xA2 xn2 xc2, .slice xA3 xn3 xc3, .int .i64 xbad, .int .i64 xab] 52)).alloc (.cells #[.string s] 9)).alloc (.cells #[.int .i64 0] 3)) 46 (.slice xA1 bs.length xc1)
    rw [World.size_alloc, World.size_alloc, World.size_alloc] at this
    rw [hW0]
    exact this
  have hrow : 0 < bs.length → ∃ b o, xA1 = some ⟨b, o, none⟩ ∧ b < W0.heap.size ∧ ∀ i x, bs[i]? = some x → ∀ j u, (bdC x)[j]? = some u → W0.cell? ⟨b, o + i * 4 + j, none⟩ = some u := fun h0 => by
    obtain ⟨g, e, _, hg, hc⟩ := hr h0
    exact ⟨g, 0, e, by omega, fun i x hx j u hj => by rw [Nat.zero_add]; exact (hB0.cell (p := ⟨g, i * 4 + j, none⟩) hg).trans (hc i x hx j u hj)⟩
  refine callsIn_of_wp_marks Tryz.func57 rfl trivial ?_ rfl
  simp only [Tryz.ntmps57, List.size_toArray, List.length_cons, List.length_nil, Nat.reduceAdd, Nat.reduceSub, Array.replicate_succ, Array.replicate_zero, List.push_toArray, List.append_toArray, List.nil_append, List.cons_append]
  gi_wp2_with (gi_at_call 95; refine (back_in Fence.wide (n - 1) trivial rfl _ _ _ _).mono ?_; rintro e w' ⟨rfl, rfl⟩)
  try rw [show w.heap.size + 1 + 1 = w.heap.size + 2 from rfl]
  try simp only [World.size_alloc]
  try rw [show w.heap.size + 2 + 1 = w.heap.size + 3 from rfl]
  rw [← hW0]
  refine wpIn_rangeFunc_ownH rfl h1n (gf := 129) (lb := #[.pointer (some ⟨w.heap.size + 3, 0, none⟩)]) rfl trivial (enters_of Tryz.func129 (by kernel_rfl) rfl)
    (back_stops Fence.wide (n - 1) trivial rfl (by omega) (w.heap.size + 3) W0.heap.size xc1 xA1 bs hl W0 (by omega) (Nat.le_refl _) b3.cell hrow) belowK_t (belowK_b (Nat.le_refl _)) (Below.refl _ _) (fun _ => rfl)
    (fun (pre : List (Nat × Bd)) (W : World) => ((∀ x ∈ pre, ¬ isD s (Prod.snd x)) ∧ W.cell? ⟨w.heap.size + 1, 0, none⟩ = some (.string s) ∧ W.cell? ⟨w.heap.size + 2, 0, none⟩ = some (.int .i64 0) ∧ W.frozen? ⟨w.heap.size + 2, 0, none⟩ = false ∧ W0.heap.size ≤ W.heap.size) ∧ Below w.heap.size w W)
    (fun (c : Code) (pre : List (Nat × Bd)) (W : World) => (c = .ret ∧ ∃ (ini : List (Nat × Bd)) (last : Nat × Bd), pre = ini ++ [last] ∧ (∀ x ∈ ini, ¬ isD s (Prod.snd x)) ∧ isD s (Prod.snd last) ∧ W.cell? ⟨w.heap.size + 2, 0, none⟩ = some (.int .i64 ((Prod.fst last : Nat) : Int))) ∧ Below w.heap.size w W)
    (OwnFrom.and (Own.from (fun t A B row hs hg hr => ⟨hs.1, cell_kept hs.2.1 hg hr, cell_kept hs.2.2.1 hg hr, (frozen_kept hs.2.2.1 hg hr).trans hs.2.2.2.1, Nat.le_trans hs.2.2.2.2 hg.size⟩) _) (ownFrom_below (Nat.le_refl _) (by omega)))
    (fun c => OwnFrom.and (Own.from (fun t A B row hs hg hr => by obtain ⟨hc, ini, last, e1, e2, e3, e4⟩ := hs; exact ⟨hc, ini, last, e1, e2, e3, cell_kept e4 hg hr⟩) _) (ownFrom_below (Nat.le_refl _) (by omega)))
    ⟨⟨by simp, b1.cell, b2.cell, b2.frozen, Nat.le_refl _⟩, hB0⟩
    (fun (x : Nat × Bd) (a' : Act) (W : World) => ∃ g, W0.heap.size ≤ g ∧ g < W.heap.size ∧ W.heap[g]? = some (.cells #[.int .i64 (Prod.snd x).at_, .int .i64 (Prod.snd x).kind, .string (Prod.snd x).word, .int .i64 (Prod.snd x).item] 60 (0, 0)) ∧ a' = { tmps := #[.agg #[.string xn, .string xx, .slice xA xln xcp, .int .i64 xkd, .int .i64 xfr, .int .i64 xtl, .string xwd, .int .i64 xat, .slice xB xkl xkc, .slice xA1 bs.length xc1, .slice xA2 xn2 xc2, .slice xA3 xn3 xc3, .int .i64 xbad, .int .i64 xab], .string s, .pointer (some ⟨w.heap.size, 0, none⟩), .pointer (some ⟨w.heap.size + 1, 0, none⟩), .pointer (some ⟨w.heap.size + 2, 0, none⟩), .int .i64 ((Prod.fst x : Nat) : Int), .pointer (some ⟨g, 0, none⟩), .pointer (some ⟨w.heap.size, 9, none⟩), .pointer (some ⟨w.heap.size, 9, none⟩), .slice xA1 bs.length xc1, .func (.func 129) #[] #[.pointer (some ⟨w.heap.size + 3, 0, none⟩)], .int .i64 ((Prod.fst x : Nat) : Int), .agg #[.int .i64 (Prod.snd x).at_, .int .i64 (Prod.snd x).kind, .string (Prod.snd x).word, .int .i64 (Prod.snd x).item], undef, undef, undef, undef, undef, undef, undef, undef, undef, undef], defers := [] })
    (fun x a' _ W W' row hs hg hr => by
      obtain ⟨g, h1, h2, h3, h4⟩ := hs
      refine ⟨g, h1, Nat.lt_of_lt_of_le h2 hg.size, (hg.block g h2 (fun e => ?_)).trans h3, h4⟩
      obtain ⟨_, o, ho, hoc⟩ := hr g e.symm
      rw [h3] at ho
      injection ho with ho
      subst ho
      cases hoc) ?assign ?body ?done ?stop
  case assign =>
    rintro l pre x W K ⟨⟨hp, hcw, hcr, hfr, hsz⟩, hB⟩ hK
    obtain ⟨x1, x2⟩ := x
    simp only [encB]
    gi_wp2
    have hga := fun o => World.grownBy_alloc W o none
    refine hK _ _ ((KeepsOthers.alloc W _).from _) ((Below.refl _ W).alloc hsz _) ⟨⟨hp, cell_kept hcw (hga _) (fun r e => by cases e), cell_kept hcr (hga _) (fun r e => by cases e), (frozen_kept hcr (hga _) (fun r e => by cases e)).trans hfr, by simp; omega⟩, hB.alloc hB.size _⟩ ⟨W.heap.size, hsz, by simp, World.alloc_heap_new W _, rfl⟩
  case body =>
    rintro l pre x a' W _ _ ⟨⟨hp, hcw, hcr, hfr, hsz⟩, hB⟩ ⟨g, hg1, hg2, hg3, rfl⟩ _
    obtain ⟨i, x1, kd, wd, x4⟩ := x
    simp only at hg3
    have c1 : W.cell? ⟨g, 1, none⟩ = some (.int .i64 kd) := by simp [World.cell?, hg3]
    have c2 : W.cell? ⟨g, 2, none⟩ = some (.string wd) := by simp [World.cell?, hg3]
    have step : ¬ isD s ⟨x1, kd, wd, x4⟩ → ∀ x ∈ pre ++ [(i, (⟨x1, kd, wd, x4⟩ : Bd))], ¬ isD s (Prod.snd x) := fun hn x hx => by
      rcases List.mem_append.1 hx with h | h
      · exact hp x h
      · simp at h; subst h; exact hn
    by_cases hk : kd = 2
    · subst hk
      by_cases hw : wd = s
      · have hq : (wd.toList == s.toList) = true := by rw [hw]; simp
        have hd : isD s ⟨x1, 2, wd, x4⟩ := ⟨rfl, hw⟩
        gi_wp2
        exact ⟨(KeepsOthers.setCell _ _ _).from _, ⟨rfl, pre, _, rfl, hp, hd, World.cell?_setCell_same' _ _ _ (by rw [hcr]; rfl)⟩, hB.setCell (p := ⟨w.heap.size + 2, 0, none⟩) (by show w.heap.size ≤ w.heap.size + 2; omega) _⟩
      · have hq : (wd.toList == s.toList) = false := ne_list hw
        have hn := step (fun h => hw h.2)
        clear hw step
        gi_wp2
        exact ⟨KeepsFrom.refl _ _, Below.refl _ _, ⟨hn, hcw, hcr, hfr, hsz⟩, hB⟩
    · have hq : (kd == 2) = false := by rw [beq_eq_false_iff_ne]; exact hk
      have hn := step (fun h => hk h.1)
      clear hk step
      gi_wp2
      exact ⟨KeepsFrom.refl _ _, Below.refl _ _, ⟨hn, hcw, hcr, hfr, hsz⟩, hB⟩
  case done =>
    rintro D ys W hD rfl ⟨⟨hne, hcw, hcr, hfr, hsz⟩, hB⟩ hK
    gi_wp2
    have hK' := (KeepsOthers.setCell W ⟨w.heap.size + 2, 0, none⟩ (.int .i64 (-1))).same D _ hK rfl
    refine ⟨by simp, .inl ⟨_, _, rfl, run_takeDeferred hK', ?_⟩⟩
    have hc5 := cell_kept (World.cell?_setCell_same' W ⟨w.heap.size + 2, 0, none⟩ (.int .i64 (-1)) (by rw [hcr]; rfl)) (grownBy_putObj' _ D (.deferred none)) (fun r e => by cases e; exact ⟨_, hK', rfl⟩)
    refine ⟨.int .i64 (-1), ?_, -1, .none fun q x hx => ?_, rfl, (hB.setCell (p := ⟨w.heap.size + 2, 0, none⟩) (by show w.heap.size ≤ w.heap.size + 2; omega) _).trans (belowK_b (w := w) (Nat.le_refl _) _ D _ _ (by omega) hK' rfl rfl)⟩
    · simp [results, Tryz.results57, go_sem, hc5]
    · have hq : q < bs.length := (List.getElem?_eq_some_iff.1 hx).1
      have hf := fromB_get (zs := bs) (k := bs.length - 1 - q) (by omega)
      rw [show bs.length - 1 - (bs.length - 1 - q) = q by omega, hx] at hf
      have := hne (fromB bs (bs.length - 1 - q)) (by simp only [upto, List.mem_map, List.mem_range]; exact ⟨_, by omega, rfl⟩)
      injection hf.1 with hf1
      rw [hf1]
      exact this
  case stop =>
    rintro D c pre W hD ⟨k, hk, rfl⟩ ⟨⟨rfl, ini, last, e1, e2, e3, hcr⟩, hB⟩ hK
    gi_wp2
    refine ⟨by simp, .inl ⟨_, _, rfl, run_takeDeferred hK, ?_⟩⟩
    have hc5 := cell_kept hcr (grownBy_putObj' _ D (.deferred none)) (fun r e => by cases e; exact ⟨_, hK, rfl⟩)
    obtain ⟨k', rfl⟩ : ∃ k', k = k' + 1 := by
      cases k with
      | zero => simp [upto] at e1
      | succ k' => exact ⟨k', rfl⟩
    rw [upto_succ] at e1
    obtain ⟨rfl, e5⟩ := List.append_inj' e1 rfl
    obtain rfl : fromB bs k' = last := by simpa using e5
    have hf := fromB_get (zs := bs) (k := k') (by omega)
    refine ⟨.int .i64 ((fromB bs k').1 : Int), ?_, _, .some (fromB bs k').1 (fromB bs k').2 (by rw [hf.2]; exact hf.1) e3 (fun q y hq hy => ?_), rfl, hB.trans (belowK_b (w := w) (Nat.le_refl _) W D _ _ (by omega) hK rfl rfl)⟩
    · simp [results, Tryz.results57, go_sem, hc5]
    · have hql : q < bs.length := (List.getElem?_eq_some_iff.1 hy).1
      rw [hf.2] at hq
      have hf2 := fromB_get (zs := bs) (k := bs.length - 1 - q) (by omega)
      rw [show bs.length - 1 - (bs.length - 1 - q) = q by omega, hy] at hf2
      have := e2 (fromB bs (bs.length - 1 - q)) (by simp only [upto, List.mem_map, List.mem_range]; exact ⟨_, by omega, rfl⟩)
      injection hf2.1 with hf1
      rw [hf1]
      exact this
theorem last_any (u : Un) (s : ByteArray) (bs : List Bd) (w : World) (hr : RowAt w 0 w.heap.size bdC 4 u.A1 bs) (h1 : u.n1 = bs.length) (hl : bs.length ≤ 1000000000) :
    Calls Tryz.prog 57 #[.agg (unC u).toArray, .string s] w fun e w' => ∃ i, LastD bs s i ∧ e = .returned (.int .i64 i) ∧ Below w.heap.size w w' :=
  callsIn_wide.1 (last_in 3 (Nat.le_refl _) u s bs w hr h1 hl)
end Pj
end Go.Proofs.YthjflofcgdfekaaGreatDoor
namespace Go.Proofs.YthjflofcgdfekaaGreatDoor
open Go.RowKit Go.Op
namespace Pj
open Sc Od Og Su
open Sb (RowAt)
set_option maxHeartbeats 4000000 in
set_option maxRecDepth 100000 in
theorem first_none (u : Un) (b : Bd) (hb : b.kind ≠ 1) (w : World) : Calls Tryz.prog 56 #[.agg (unC u).toArray, .agg #[.int .i64 b.at_, .int .i64 b.kind, .string b.word, .int .i64 b.item]] w fun e w' => e = .returned (.tuple #[.agg #[.int .i64 0, .int .i64 0, .int .i64 0, .string ⟨#[]⟩, .int .i64 0, .slice none 0 0], .bool false]) ∧ Below w.heap.size w w' := by
  have hq : (b.kind != 1) = true := by rw [bne_iff_ne]; exact hb
  obtain ⟨b1, b2, b3, b4⟩ := b
  obtain ⟨xn, xx, xA, xln, xcp, xkd, xfr, xtl, xwd, xat, xB, xkl, xkc, xA1, xn1, xc1, xA2, xn2, xc2, xA3, xn3, xc3, xbad, xab⟩ := u
  simp only [unC] at *
  obtain ⟨W3, hW3⟩ : ∃ W3, W3 = ((w.alloc (.cells #[.string xn, .string xx, .slice xA xln xcp, .int .i64 xkd, .int .i64 xfr, .int .i64 xtl, .string xwd, .int .i64 xat, .slice xB xkl xkc, .slice xA1 xn1 xc1, .slice xA2 xn2 xc2, .slice xA3 xn3 xc3, .int .i64 xbad, .int .i64 xab] 52)).alloc (.cells #[.int .i64 b1, .int .i64 b2, .string b3, .int .i64 b4] 60)).alloc (.cells #[.int .i64 0, .int .i64 0, .int .i64 0, .string ⟨#[]⟩, .int .i64 0, .slice none 0 0] 38) := ⟨_, rfl⟩
  have r2 : RowB W3 (w.heap.size + 2) 38 #[.int .i64 0, .int .i64 0, .int .i64 0, .string ⟨#[]⟩, .int .i64 0, .slice none 0 0] := by
    have := RowB.new ((w.alloc (.cells #[.string xn, .string xx, .slice xA xln xcp, .int .i64 xkd, .int .i64 xfr, .int .i64 xtl, .string xwd, .int .i64 xat, .slice xB xkl xkc, .slice xA1 xn1 xc1, .slice xA2 xn2 xc2, .slice xA3 xn3 xc3, .int .i64 xbad, .int .i64 xab] 52)).alloc (.cells #[.int .i64 b1, .int .i64 b2, .string b3, .int .i64 b4] 60)) 38 #[.int .i64 0, .int .i64 0, .int .i64 0, .string ⟨#[]⟩, .int .i64 0, .slice none 0 0]
    rw [hW3]
    simpa using this
  have hB : Below w.heap.size w W3 := by rw [hW3]; exact ((belA w _).alloc (by simp) _).alloc (by simp; omega) _
  have HR2 := Lib.hid r2
  have HB := Lib.hid hB
  have HW3 := Lib.hid hW3
  clear hb hW3 r2 hB
  go_enter Tryz.func56, Tryz.ntmps56
  go_wp2
  refine bodyPost_ret (v := .tuple #[.agg #[.int .i64 0, .int .i64 0, .int .i64 0, .string ⟨#[]⟩, .int .i64 0, .slice none 0 0], .bool false]) ?_ rfl ⟨rfl, ?_⟩
  · simp [results, Tryz.results56, go_sem]
  · first
    | (rw [← HW3.out]; exact HB.out)
    | exact ((belA w _).alloc (by simp) _).alloc (by simp; omega) _
    | (rw [← HW3.out]; repeat refine Below.setCell ?_ (by show w.heap.size ≤ w.heap.size + 1 + 1; omega) _
       exact HB.out)
set_option maxHeartbeats 4000000 in
set_option maxRecDepth 100000 in
theorem wimp_none (u : Un) (b : Bd) (hb : b.kind ≠ 1) (p : Value) (w : World) : Calls Tryz.prog 98 #[p, .agg (unC u).toArray, .agg #[.int .i64 b.at_, .int .i64 b.kind, .string b.word, .int .i64 b.item]] w fun e w' => e = .returned (.tuple #[.int .i64 0, .int .i64 0]) ∧ Below w.heap.size w w' := by
  have C := Lib.hid (fun W => first_none u b hb W)
  obtain ⟨b1, b2, b3, b4⟩ := b
  obtain ⟨xn, xx, xA, xln, xcp, xkd, xfr, xtl, xwd, xat, xB, xkl, xkc, xA1, xn1, xc1, xA2, xn2, xc2, xA3, xn3, xc3, xbad, xab⟩ := u
  simp only [unC] at *
  have hB : Below w.heap.size w ((w.alloc (.cells #[.string xn, .string xx, .slice xA xln xcp, .int .i64 xkd, .int .i64 xfr, .int .i64 xtl, .string xwd, .int .i64 xat, .slice xB xkl xkc, .slice xA1 xn1 xc1, .slice xA2 xn2 xc2, .slice xA3 xn3 xc3, .int .i64 xbad, .int .i64 xab] 52)).alloc (.cells #[.int .i64 b1, .int .i64 b2, .string b3, .int .i64 b4] 60)) := (belA w _).alloc (by simp) _
  have HB := Lib.hid hB
  clear hb hB
  go_enter Tryz.func98, Tryz.ntmps98
  go_wp2_with fail
  refine (C.out _).mono ?_
  rintro e w2 ⟨rfl, h2⟩
  have H2 := Lib.hid (HB.out.trans (h2.mono HB.out.size))
  have H3 := Lib.hid (H2.out.alloc H2.out.size (.cells #[.int .i64 0, .int .i64 0, .int .i64 0, .string ⟨#[]⟩, .int .i64 0, .slice none 0 0] 38))
  clear h2 C
  go_wp2_with fail
  (first | go_ret | go_ret2)
  exact ⟨rfl, by first | exact H3.out | exact H2.out⟩
set_option maxHeartbeats 8000000 in
set_option maxRecDepth 100000 in
theorem wrong_none (u : Un) (bs : List Bd) (p : Value) (w : World) (hr : RowAt w 0 w.heap.size bdC 4 u.A1 bs) (h1 : u.n1 = bs.length) (h3 : u.n3 = 0) (hz : u.bad = 0) (hl : bs.length ≤ 1000000) (hk : ∀ b ∈ bs, b.kind ≠ 1) :
    Calls Tryz.prog 58 #[p, .agg (unC u).toArray] w fun e w' => e = .returned (.slice none 0 0) ∧ Below w.heap.size w w' := by
  have C := Lib.hid (fun b hb W => wimp_none u b (hk b hb) p W)
  have HR := Lib.hid hr
  obtain ⟨xn, xx, xA, xln, xcp, xkd, xfr, xtl, xwd, xat, xB, xkl, xkc, xA1, xn1, xc1, xA2, xn2, xc2, xA3, xn3, xc3, xbad, xab⟩ := u
  simp only [unC] at *
  subst h1 h3 hz
  obtain ⟨n, hn⟩ : ∃ n, n = bs.length := ⟨_, rfl⟩
  have HN := Lib.hid hn
  obtain ⟨W2, hW2⟩ : ∃ W2, W2 = (w.alloc (.cells #[.string xn, .string xx, .slice xA xln xcp, .int .i64 xkd, .int .i64 xfr, .int .i64 xtl, .string xwd, .int .i64 xat, .slice xB xkl xkc, .slice xA1 n xc1, .slice xA2 xn2 xc2, .slice xA3 0 xc3, .int .i64 0, .int .i64 xab] 52)).alloc (.cells #[.slice none 0 0] 68) := ⟨_, rfl⟩
  have r0 : RowB W2 w.heap.size 52 #[.string xn, .string xx, .slice xA xln xcp, .int .i64 xkd, .int .i64 xfr, .int .i64 xtl, .string xwd, .int .i64 xat, .slice xB xkl xkc, .slice xA1 n xc1, .slice xA2 xn2 xc2, .slice xA3 0 xc3, .int .i64 0, .int .i64 xab] := by rw [hW2, hn]; exact (RowB.new _ _ _).alloc _
  have r1 : RowB W2 (w.heap.size + 1) 68 #[.slice none 0 0] := by
    have := RowB.new (w.alloc (.cells #[.string xn, .string xx, .slice xA xln xcp, .int .i64 xkd, .int .i64 xfr, .int .i64 xtl, .string xwd, .int .i64 xat, .slice xB xkl xkc, .slice xA1 n xc1, .slice xA2 xn2 xc2, .slice xA3 0 xc3, .int .i64 0, .int .i64 xab] 52)) 68 #[.slice none 0 0]
    rw [hW2]
    simpa using this
  have hB : Below w.heap.size w W2 := by rw [hW2]; exact (belA w _).alloc (by simp) _
  have R0 := Lib.hid r0
  have R1 := Lib.hid r1
  have HB := Lib.hid hB
  have HW2 := Lib.hid hW2
  have hmf : ∀ (fn : Fn) (first cap : Array Value) (w : World), (Instr.makeFunc fn first cap).run Tryz.prog w = .ok (.func fn first cap) w := fun _ _ _ _ => rfl
  have hn6 : n ≤ 1000000 := by omega
  rw [← hn] at C ⊢
  clear hr hl hk hn r0 r1 hB hW2
  go_enter Tryz.func58, Tryz.ntmps58
  go_wp2_with fail
  refine wp_loop_rounds 1 ?_
  rw [rounds_succ]
  go_wp2_with fail
  rw [← HW2.out]
  go_loopg [45] (n + 1) (fun kx s45 wr => ∃ (i : Nat), s45 = .int .i64 i ∧ n - i ≤ kx ∧ i ≤ n ∧ Hid (Below w.heap.size w wr) ∧ Hid (RowB wr w.heap.size 52 #[.string xn, .string xx, .slice xA xln xcp, .int .i64 xkd, .int .i64 xfr, .int .i64 xtl, .string xwd, .int .i64 xat, .slice xB xkl xkc, .slice xA1 n xc1, .slice xA2 xn2 xc2, .slice xA3 0 xc3, .int .i64 0, .int .i64 xab]) ∧ Hid (RowB wr (w.heap.size + 1) 68 #[.slice none 0 0]))
  case atStart => exact ⟨0, rfl, by omega, by omega, HB.out, R0.out, R1.out⟩
  case round =>
    clear R0 R1 HB HW2
    obtain ⟨i, rfl, hkx, hin, HQ, R0, R1⟩ := hrel
    by_cases hi : i < n
    · have hil : (i : Int) < (n : Int) := by omega
      obtain ⟨x, hx⟩ : ∃ x, bs[i]? = some x := ⟨bs[i]'(by rw [← HN.out]; exact hi), List.getElem?_eq_getElem _⟩
      obtain ⟨g1, eA, _, l1, k1⟩ := row_up HR.out (Nat.le_refl _) HQ.out (by rw [← HN.out]; omega)
      have a0 : wr.cell? ⟨g1, i * 4, none⟩ = some (.int .i64 x.at_) := k1 i x hx 0 _ rfl
      have a1 := k1 i x hx 1 _ rfl
      have a2 := k1 i x hx 2 _ rfl
      have a3 := k1 i x hx 3 _ rfl
      have C2 := Lib.hid (C.out x (List.mem_of_getElem? hx))
      obtain ⟨x0, x1, x2, x3⟩ := x
      simp only at a0 a1 a2 a3 C2
      have y0 := (R0.out.alloc (.cells #[.int .i64 x0, .int .i64 x1, .string x2, .int .i64 x3] 60)).cell
      have HQ2 := Lib.hid (HQ.out.alloc HQ.out.size (.cells #[.int .i64 x0, .int .i64 x1, .string x2, .int .i64 x3] 60))
      have R02 := Lib.hid (R0.out.alloc (.cells #[.int .i64 x0, .int .i64 x1, .string x2, .int .i64 x3] 60))
      have R12 := Lib.hid (R1.out.alloc (.cells #[.int .i64 x0, .int .i64 x1, .string x2, .int .i64 x3] 60))
      obtain ⟨j, hj⟩ : ∃ j, j = i + 1 := ⟨_, rfl⟩
      have HJ := Lib.hid hj
      have e1 : IntKind.i64.wrap ((i : Int) + 1) = (j : Int) := by rw [IntKind.wrap_i64]; omega
      subst eA
      clear k1 hx hj
      go_wp2_with fail
      refine (C2.out _).mono ?_
      rintro e w3 ⟨rfl, hb3⟩
      have HQ3 := Lib.hid (HQ2.out.trans (hb3.mono HQ2.out.size))
      have R03 := Lib.hid (R02.out.below hb3 R02.out.lt)
      have R13 := Lib.hid (R12.out.below hb3 R12.out.lt)
      clear hb3 C2 a0 a1 a2 a3 y0 HQ2 R02 R12
      go_wp2_with fail
      have hj := HJ.out
      go_roundg (n - j)
      case measure => omega
      case rel => exact ⟨j, rfl, by omega, by omega, HQ3.out, R03.out, R13.out⟩
    · have hd1 : decide ((i : Int) < (n : Int)) = false := decide_eq_false (by omega)
      have y1 := R1.out.cell 0
      go_wp2_with fail
      (first | go_ret | go_ret2)
      exact ⟨rfl, HQ.out⟩
end Pj
end Go.Proofs.YthjflofcgdfekaaGreatDoor
namespace Go.Proofs.YthjflofcgdfekaaGreatDoor
open Go.RowKit Go.Op
namespace Pj
open Sc Od Og Su Ps Pg
open Sb (RowAt)
abbrev mainB : ByteArray := ⟨#[109, 97, 105, 110]⟩
abbrev T0 : ByteArray := ⟨#[100, 101, 102, 32, 109, 97, 105, 110, 40, 41, 32, 123, 125]⟩
def hd0 : Ps.Hd := ⟨1, 0, 6, ⟨#[]⟩, 0⟩
def kk0 : Fo := .cons ⟨4, 2, 4, ⟨#[]⟩, 0⟩ .nil (.cons ⟨0, 0, 0, ⟨#[]⟩, 0⟩ .nil (.cons ⟨6, 4, 6, ⟨#[]⟩, 0⟩ .nil .nil))
def k0 : Fo := .cons ⟨3, 0, 6, mainB, 1⟩ kk0 .nil
def b0 : Bd := ⟨1, 2, mainB, 0⟩
def isGood : OfR → Bool
  | .ok _ h k => h.kind == 1 && h.fro == 0 && h.til == 6 && h.word.data.toList == [] && h.at_ == 0 && (match k with
    | .cons a (.cons b .nil (.cons c .nil (.cons d .nil .nil))) .nil => a.kind == 3 && a.fro == 0 && a.til == 6 && a.word.data.toList == [109, 97, 105, 110] && a.at_ == 1 && b.kind == 4 && b.fro == 2 && b.til == 4 && b.word.data.toList == [] && b.at_ == 0 && c.kind == 0 && c.fro == 0 && c.til == 0 && c.word.data.toList == [] && c.at_ == 0 && d.kind == 6 && d.fro == 4 && d.til == 6 && d.word.data.toList == [] && d.at_ == 0
    | _ => false)
  | _ => false
theorem T0_good : isGood (ofM T0) = true := by kernel_rfl
theorem bs0 : (stF k0).bs.map (fun b : Bd => (b.at_, b.kind, b.word.data.toList, b.item)) = [(1, 2, [109, 97, 105, 110], 0)] := by kernel_rfl
theorem bad0 : (stF k0).bad = [] := by kernel_rfl
theorem ba_eq {a : ByteArray} {l : List UInt8} (h : a.data.toList = l) : a = ⟨⟨l⟩⟩ := by
  cases a with | mk d => cases d with | mk l' => simp at h; rw [h]
theorem bs0' : (stF k0).bs = [b0] := by
  have h := bs0
  obtain ⟨l, hl⟩ : ∃ l, l = (stF k0).bs := ⟨_, rfl⟩
  rw [← hl] at h ⊢
  clear hl
  rcases l with _ | ⟨⟨a, b, c, d⟩, _ | ⟨y, l⟩⟩
  · simp at h
  · simp at h
    obtain ⟨rfl, rfl, hc, rfl⟩ := h
    have := ba_eq (l := [109, 97, 105, 110]) (by rw [hc])
    rw [this]
    rfl
  · simp at h
theorem T0_of : ∃ l, ofM T0 = .ok l hd0 k0 := by
  have h := T0_good
  match e : ofM T0, h with
  | .ok l ⟨p1, p2, p3, p4, p5⟩ k, h =>
    simp only [isGood, Bool.and_eq_true, beq_iff_eq] at h
    obtain ⟨⟨⟨⟨⟨rfl, rfl⟩, rfl⟩, h4⟩, rfl⟩, hk⟩ := h
    obtain rfl := ba_eq (l := []) h4
    split at hk
    · rename_i a b c d
      obtain ⟨a1, a2, a3, a4, a5⟩ := a
      obtain ⟨q1, q2, q3, q4, q5⟩ := b
      obtain ⟨c1, c2, c3, c4, c5⟩ := c
      obtain ⟨d1, d2, d3, d4, d5⟩ := d
      simp only [Bool.and_eq_true, beq_iff_eq] at hk
      obtain ⟨⟨⟨⟨⟨⟨⟨⟨⟨⟨⟨⟨⟨⟨⟨⟨⟨⟨⟨rfl, rfl⟩, rfl⟩, ha⟩, rfl⟩, rfl⟩, rfl⟩, rfl⟩, hb⟩, rfl⟩, rfl⟩, rfl⟩, rfl⟩, hc⟩, rfl⟩, rfl⟩, rfl⟩, rfl⟩, hd⟩, rfl⟩ := hk
      obtain rfl := ba_eq (l := [109, 97, 105, 110]) ha
      obtain rfl := ba_eq (l := []) hb
      obtain rfl := ba_eq (l := []) hc
      obtain rfl := ba_eq (l := []) hd
      exact ⟨l, rfl⟩
    · cases hk
theorem tree0 {w : World} {P : Nat → Prop} {B : Option Addr} {kc : Nat} (h : KV w P k0 B kc) : ∃ (g o g2 o2 c1 c2 : Nat) (A2 : Option Addr), B = some ⟨g, o, none⟩ ∧ g < w.heap.size ∧ g2 < w.heap.size ∧
    w.cell? ⟨g, o, none⟩ = some (.int .i64 3) ∧ w.cell? ⟨g, o + 1, none⟩ = some (.int .i64 0) ∧ w.cell? ⟨g, o + 2, none⟩ = some (.int .i64 6) ∧ w.cell? ⟨g, o + 3, none⟩ = some (.string mainB) ∧ w.cell? ⟨g, o + 4, none⟩ = some (.int .i64 1) ∧ w.cell? ⟨g, o + 5, none⟩ = some (.slice (some ⟨g2, o2, none⟩) 3 c1) ∧
    w.cell? ⟨g2, o2 + 5, none⟩ = some (.slice A2 0 c2) := by
  obtain ⟨_, hK⟩ := h
  obtain ⟨g, o, ck, eB, _, hg, hc, hF⟩ := hK (by decide)
  rw [k0, FC] at hF
  obtain ⟨A, cap, cs', rfl, _, hK2, _⟩ := hF
  obtain ⟨g2, o2, ck2, rfl, _, hg2, hc2, hF2⟩ := hK2 (by decide)
  rw [kk0, FC] at hF2
  obtain ⟨A2, cap2, cs2, rfl, _, _, _⟩ := hF2
  exact ⟨g, o, g2, o2, cap, cap2, A2, eB, hg, hg2, hc 0 _ rfl, hc 1 _ rfl, hc 2 _ rfl, hc 3 _ rfl, hc 4 _ rfl, hc 5 _ rfl, hc2 5 _ rfl⟩
set_option maxHeartbeats 16000000 in
set_option maxRecDepth 100000 in
theorem entry0 (u : Un) (lo p : Nat) (w : World) (l : List Tok) (hp : PV w lo p [u]) (hn : u.n = mainB) (hg : UGood lo w u l hd0 k0) :
    Calls Tryz.prog 59 #[.pointer (some ⟨p, 0, none⟩)] w fun e w' => e = .returned (.bool true) ∧ Below w.heap.size w w' := by
  have CU := Lib.hid (unit_any [u] mainB lo p w hp (by simp))
  have HG := Lib.hid hg
  have HN := Lib.hid hn
  clear hp hn hg
  go_enter Tryz.func59, Tryz.ntmps59
  go_wp2_with fail
  refine CU.out.mono ?_
  rintro e w2 ⟨hb, hq⟩
  clear CU
  obtain ⟨v, hv, rfl⟩ : ∃ v, FndU [u] mainB v ∧ e = .returned (.tuple #[.agg (unC v).toArray, .bool true]) := by
    rcases hq with h | ⟨hno, _⟩
    · exact h
    · exact absurd HN.out (hno u (by simp))
  clear hq
  obtain rfl : v = u := by
    obtain ⟨i, hi, _, _⟩ := hv
    rw [List.getElem?_singleton] at hi
    split at hi
    · injection hi with hi; exact hi.symm
    · cases hi
  clear hv
  have hg2 := HG.out.below hb
  obtain ⟨W3, hW3⟩ : ∃ W3, W3 = w2.alloc (.cells (unC v).toArray 52) := ⟨_, rfl⟩
  have hb3 : Below w2.heap.size w2 W3 := by rw [hW3]; exact belA w2 _
  have hr3 : RowB W3 w2.heap.size 52 (unC v).toArray := by rw [hW3]; exact RowB.new _ _ _
  have hg3 := hg2.below hb3
  have e1 : v.n1 = 1 := by rw [hg3.n1, bs0']; rfl
  have e2 : v.kl = 1 := by rw [hg3.kl]; rfl
  have hrow : RowAt W3 0 W3.heap.size bdC 4 v.A1 [b0] := by
    have := hg3.r1
    rw [bs0'] at this
    exact row_fin this (Nat.zero_le _) (Nat.le_refl _) fun _ _ _ _ => rfl
  have C57 := Lib.hid (last_any v mainB [b0] W3 hrow e1 (by simp))
  obtain ⟨g1, eA, _, l1, k1⟩ := hrow (by simp)
  have i0 : ∀ W, Below W3.heap.size W3 W → W.cell? ⟨g1, 3, none⟩ = some (.int .i64 0) := fun W hW => (hW.cell (p := ⟨g1, 3, none⟩) l1).trans (k1 0 b0 rfl 3 _ rfl)
  have HI := Lib.hid i0
  have HT := Lib.hid hg3.tree
  have HB3 := Lib.hid (hb.trans (hb3.mono hb.size))
  have HR3 := Lib.hid hr3
  have HW3 := Lib.hid hW3
  obtain ⟨xn, xx, xA, xln, xcp, xkd, xfr, xtl, xwd, xat, xB, xkl, xkc, xA1, xn1, xc1, xA2, xn2, xc2, xA3, xn3, xc3, xbad, xab⟩ := v
  simp only [unC] at *
  subst e1 e2 eA
  clear hg2 hb3 hr3 hg3 hrow k1 i0 hW3 hb
  go_wp2_with fail
  rw [← HW3.out]
  refine C57.out.mono ?_
  rintro e w4 ⟨i, hL, rfl, hb4⟩
  obtain rfl : i = 0 := by
    cases hL with
    | none h => exact absurd ⟨rfl, rfl⟩ (h 0 b0 rfl)
    | some i x hx hd h =>
      have : i = 0 := by
        have := (List.getElem?_eq_some_iff.1 hx).1
        simp at this
        exact this
      rw [this]; rfl
  have y3 := (HR3.out.below hb4 HR3.out.lt).cell
  have x3 := HI.out w4 hb4
  obtain ⟨g, o, g2, o2, c1, c2, A2, eB, hgl, hgl2, t0, t1, t2, t3, t4, t5, t6⟩ := tree0 (HT.out.below hb4)
  have HB4 := Lib.hid (HB3.out.trans (hb4.mono HB3.out.size))
  subst eB
  have HB5 := Lib.hid (HB4.out.alloc HB4.out.size (.cells #[.int .i64 3, .int .i64 0, .int .i64 6, .string mainB, .int .i64 1, .slice (some ⟨g2, o2, none⟩) 3 c1] 38))
  clear hL hb4 C57 HI HT HR3 HW3 HB3 HG HN
  go_wp2_with fail
  go_ret
  exact ⟨rfl, HB5.out⟩
end Pj
end Go.Proofs.YthjflofcgdfekaaGreatDoor
