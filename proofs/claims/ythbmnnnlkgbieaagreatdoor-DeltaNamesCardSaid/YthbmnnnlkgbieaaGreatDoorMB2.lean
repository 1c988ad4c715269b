/- Contracts: where a gap ends. -/
import Derived.Test.YthbmnnnlkgbieaaGreatDoorMB1
import Derived.Deep.LoopGhost
import Derived.OneCell
import Derived.Lib.OwnKind
import Derived.Deep.AppendLies
import Derived.Laws.MakeOwn
import Derived.Deep.OwnRows
import Derived.Test.YthbmnnnlkgbieaaGreatDoorMA1
namespace Go.Proofs.YthbmnnnlkgbieaaGreatDoor
open Go.RowKit Go.Op

theorem new2 (w : World) (o0 o1 : Obj) : ((w.alloc o0).alloc o1).heap[w.heap.size]? = some o0 ∧ ((w.alloc o0).alloc o1).heap[w.heap.size + 1]? = some o1 := by
  have e1 : (w.alloc o0).heap.size = w.heap.size + 1 := by simp
  refine ⟨heap_old (heap_new w o0), ?_⟩
  rw [← e1]; exact heap_new _ o1
theorem own_bel {w w' : World} {base e size n : Nat} {v : Value} {xs : List Value} (h : w.ownsRow base e size v n xs) (hb : Below w.heap.size w w') : w'.ownsRow base e size v n xs :=
  h.kept (row := none) ⟨hb.os, hb.tape, hb.output, hb.size, fun k hk _ => hb.block k hk⟩ (by
    cases hv : v.ownBlock with
    | none => exact .inl rfl
    | some k => exact .inr (by simp))

/-- The place behind a step into a gap. -/
def TD.st (D : TD) (i j : Nat) : Nat × Nat := if D.toOld i j then (i + 1, j) else (i, j + 1)
inductive Cl (D : TD) : Nat → Nat → Nat → Nat → Prop
  | stop (i j : Nat) : D.stops (D.st i j).1 (D.st i j).2 = true → Cl D i j (D.st i j).1 (D.st i j).2
  | on (i j a b : Nat) : D.stops (D.st i j).1 (D.st i j).2 = false → Cl D (D.st i j).1 (D.st i j).2 a b → Cl D i j a b
theorem st_or (D : TD) {i j : Nat} (hi : i ≤ D.a.length) (hj : j ≤ D.b.length) (he : ¬ (i = D.a.length ∧ j = D.b.length)) :
    (D.st i j).1 ≤ D.a.length ∧ (D.st i j).2 ≤ D.b.length ∧ (D.st i j).1 + (D.st i j).2 = i + j + 1 := by
  unfold TD.st
  cases h : D.toOld i j
  · have := (Dl.toOld_or w32 D.same _ _ hi hj he h).1
    simp; omega
  · unfold TD.toOld Dl.toOld at h
    simp only [Bool.and_eq_true, decide_eq_true_eq] at h
    simp; omega
theorem st_sp (D : TD) (i j : Nat) : (if D.toOld i j then sp ((i : Int) + 1) j else sp i ((j : Int) + 1)) = sp ((D.st i j).1 : Int) ((D.st i j).2 : Int) := by
  unfold TD.st
  cases D.toOld i j <;> simp

set_option maxHeartbeats 8000000 in
set_option maxRecDepth 100000 in
theorem close_any (D : TD) (i j : Nat) (w : World) (hF : Full w D) (hi : i ≤ D.a.length) (hj : j ≤ D.b.length) (he : ¬ (i = D.a.length ∧ j = D.b.length)) :
    Calls Tryz.prog 59 #[D.tv, sp i j] w fun e w' => ∃ a b : Nat, e = .returned (sp a b) ∧ Cl D i j a b ∧ Below w.heap.size w w' := by
  have hN := hF.tb.hN
  have hk := hF.tb.hk
  have hl := @len_lt D
  have HF := Lib.hid hF
  clear hF
  have hnew : RowB (((w.alloc (.cells #[.slice D.Aa D.a.length D.ca, .slice D.Ab D.b.length D.cb, D.fv] 90)).alloc (.cells #[.int .i64 i, .int .i64 j] 55)).alloc (.cells #[.int .i64 0, .int .i64 0] 55)) w.heap.size 90 #[.slice D.Aa D.a.length D.ca, .slice D.Ab D.b.length D.cb, D.fv] ∧
      RowB (((w.alloc (.cells #[.slice D.Aa D.a.length D.ca, .slice D.Ab D.b.length D.cb, D.fv] 90)).alloc (.cells #[.int .i64 i, .int .i64 j] 55)).alloc (.cells #[.int .i64 0, .int .i64 0] 55)) (w.heap.size + 1) 55 #[.int .i64 i, .int .i64 j] ∧
      RowB (((w.alloc (.cells #[.slice D.Aa D.a.length D.ca, .slice D.Ab D.b.length D.cb, D.fv] 90)).alloc (.cells #[.int .i64 i, .int .i64 j] 55)).alloc (.cells #[.int .i64 0, .int .i64 0] 55)) (w.heap.size + 2) 55 #[.int .i64 0, .int .i64 0] := new3 w _ _ _
  have HNEW := Lib.hid hnew
  clear hnew
  go_enter Tryz.func59, Tryz.ntmps59
  go_wp2_with fail
  go_loopg [5] (D.a.length + D.b.length + 1) (fun kx (_ : Value) wr => ∃ (i' j' : Nat), i' ≤ D.a.length ∧ j' ≤ D.b.length ∧ ¬ (i' = D.a.length ∧ j' = D.b.length) ∧ D.a.length + D.b.length - (i' + j') ≤ kx ∧ Hid (∀ a b, Cl D i' j' a b → Cl D i j a b) ∧
    Hid (RowB wr w.heap.size 90 #[.slice D.Aa D.a.length D.ca, .slice D.Ab D.b.length D.cb, D.fv]) ∧ Hid (RowB wr (w.heap.size + 1) 55 #[.int .i64 i', .int .i64 j']) ∧ Hid (RowB wr (w.heap.size + 2) 55 #[.int .i64 0, .int .i64 0]) ∧ Hid (Below w.heap.size w wr))
  case atStart =>
    exact ⟨i, j, hi, hj, he, by omega, fun _ _ h => h, HNEW.out.1, HNEW.out.2.1, HNEW.out.2.2, bel3 _ _ _ _⟩
  case round =>
    obtain ⟨i', j', hi', hj', he', hkx, HCL, R0, R1, R2, HB⟩ := hrel
    have r0 := R0.out.cell
    have r1 := R1.out.cell
    have hstc := st_or D hi' hj' he'
    have Cstop := Cl.stop (D := D) i' j'
    have Con := Cl.on (D := D) i' j'
    have hsp := st_sp D i' j'
    have CS := Lib.hid (step_any D i' j' wr (HF.out.below HB.out) hi' hj' he')
    rw [hsp] at CS
    generalize (D.st i' j').1 = x at *
    generalize (D.st i' j').2 = y at *
    clear hsp
    go_wp2_with fail
    refine CS.out.mono ?_
    rintro e w2 ⟨rfl, hb2⟩
    have B2 := Lib.hid (HB.out.trans (hb2.mono HB.out.size) : Below w.heap.size w w2)
    have P0 := Lib.hid (R0.out.below hb2 R0.out.lt)
    have P1 := Lib.hid (R1.out.below hb2 R1.out.lt)
    have P2 := Lib.hid (R2.out.below hb2 R2.out.lt)
    have F1 := P1.out.thaw
    have G1 := P1.out.cell
    clear hb2 CS r0 r1
    have Q1 := Lib.hid ((P1.out.put 0 (.int .i64 x)).put 1 (.int .i64 y))
    have Q0 := Lib.hid ((P0.out.far (p := ⟨w.heap.size + 1, 0, none⟩) (by simp) (.int .i64 x)).far (p := ⟨w.heap.size + 1, 1, none⟩) (by simp) (.int .i64 y))
    have Q2 := Lib.hid ((P2.out.far (p := ⟨w.heap.size + 1, 0, none⟩) (by simp) (.int .i64 x)).far (p := ⟨w.heap.size + 1, 1, none⟩) (by simp) (.int .i64 y))
    have B3 := Lib.hid ((B2.out.setCell (p := ⟨w.heap.size + 1, 0, none⟩) (by simp) (.int .i64 x)).setCell (p := ⟨w.heap.size + 1, 1, none⟩) (by simp) (.int .i64 y))
    go_wp2_with fail
    generalize hW : (w2.setCell ⟨w.heap.size + 1, 0, none⟩ (.int .i64 x)).setCell ⟨w.heap.size + 1, 1, none⟩ (.int .i64 y) = W at *
    clear hW F1 G1 P0 P1 P2 B2
    have Q1' : Hid (RowB W (w.heap.size + 1) 55 #[.int .i64 x, .int .i64 y]) := Q1.out
    have FW := Lib.hid (HF.out.below B3.out)
    have hm : Hid (∀ d os, Below w.heap.size w (Go.Sort.grow (redrawn W d) os)) := fun d os => B3.out.trans ((below_regrown W d os).mono B3.out.size)
    have z00 := fun d os => cell_regrown (Q0.out.cell 0) d os
    have z01 := fun d os => cell_regrown (Q0.out.cell 1) d os
    have z02 := fun d os => cell_regrown (Q0.out.cell 2) d os
    have z10 := fun d os => cell_regrown (Q1'.out.cell 0) d os
    have z11 := fun d os => cell_regrown (Q1'.out.cell 1) d os
    have EN : Hid (∀ w' : World, Below w.heap.size w w' → Calls Tryz.prog 56 #[D.tv] w' fun e w'' => e = .returned (sp D.a.length D.b.length) ∧ Below w'.heap.size w' w'') := fun w' _ => end_any D w' hN
    have hst : D.stops x y = ((decide ((x : Int) = (D.a.length : Int)) && decide ((y : Int) = (D.b.length : Int))) || (D.isS x y && decide ((D.C x y).2 = Dl.keep w32 D.same D.a.length D.b.length x y))) := by
      rw [show decide ((x : Int) = (D.a.length : Int)) = decide (x = D.a.length) from decide_eq_decide.2 (by omega), show decide ((y : Int) = (D.b.length : Int)) = decide (y = D.b.length) from decide_eq_decide.2 (by omega)]
      rfl
    have q55 := fun u => eq55 x y D.a.length D.b.length u
    have IS : Hid (∀ w' : World, Below w.heap.size w w' → Calls Tryz.prog 58 #[D.tv, sp x y] w' fun e w'' => e = .returned (.bool (D.isS x y)) ∧ Below w'.heap.size w' w'') := fun w' hb => isS_any D x y w' (HF.out.below hb).tb hstc.1 hstc.2.1
    have KP : Hid (D.isS x y = true → ∀ w' : World, Below w.heap.size w w' → Calls Tryz.prog 74 #[D.tv, sp x y] w' fun e w'' => e = .returned (scv (Dl.keep w32 D.same D.a.length D.b.length x y)) ∧ Below w'.heap.size w' w'') := fun hz w' hb => by
      unfold TD.isS Dl.isS at hz
      simp only [Bool.and_eq_true, decide_eq_true_eq] at hz
      have hF := HF.out.below hb
      exact keep_any D x y _ w' hF.tb hz.1.1 hz.1.2 (hF.cells _ _ (by omega) (by omega))
    have AT : Hid (∀ w' : World, Below w.heap.size w w' → Calls Tryz.prog 55 #[.agg #[.int .i64 x, .int .i64 y], .pointer (some ⟨D.vb, 0, none⟩), .pointer (some ⟨D.bb, 0, none⟩)] w' fun e w'' => e = .returned (.pointer (some ⟨D.ck, D.off x y * 4, none⟩)) ∧ Below w'.heap.size w' w'') := fun w' hb =>
      at_any D x y w' (HF.out.below hb).tb hstc.1 hstc.2.1
    obtain ⟨_, _, c2, c3⟩ := FW.out.cells x y hstc.1 hstc.2.1
    have q110 := fun u => eq110 (D.C x y).2 (Dl.keep w32 D.same D.a.length D.b.length x y) u
    generalize Dl.keep w32 D.same D.a.length D.b.length x y = kp at *
    generalize D.isS x y = z2 at *
    generalize (D.C x y).2 = cw at *
    have hnot : D.stops x y = false → ¬ (x = D.a.length ∧ y = D.b.length) := fun h ⟨h1, h2⟩ => by rw [hst] at h; simp [h1, h2] at h
    generalize (decide ((x : Int) = (D.a.length : Int)) && decide ((y : Int) = (D.b.length : Int))) = z1 at *
    generalize decide (cw = kp) = z3 at *
    have zc2 := fun d os => cell_regrown c2 d os
    have zc3 := fun d os => cell_regrown c3 d os
    clear Q1
    cases z1
    · cases z2
      · refine wp_region_quiet_below (by kernel_rfl) (by kernel_rfl) ?_
        repeat (go_big_quiet_step (first
          | (go_at_call 56; exact Calls.regrown_of (EN.out _ (hm.out _ _)))
          | (go_at_call 58; exact Calls.regrown_of (IS.out _ (hm.out _ _)))
          | (go_at_call 55; exact Calls.regrown_of (AT.out _ (hm.out _ _)))
          | (go_at_call 74; exact Calls.regrown_of (KP.out (by first | rfl | trivial) _ (hm.out _ _)))))
        refine wpQuiet_nil ?_
        intro _ hw'
        obtain ⟨⟨dq, osq⟩, hw''⟩ := hw'
        subst hw''
        have X0 := Lib.hid (Q0.out.below (below_regrown W dq osq) Q0.out.lt)
        have X1 := Lib.hid (Q1'.out.below (below_regrown W dq osq) Q1'.out.lt)
        have X2 := Lib.hid (Q2.out.below (below_regrown W dq osq) Q2.out.lt)
        have HX := Lib.hid (hm.out dq osq)
        generalize Go.Sort.grow (redrawn W dq) osq = WX at *
        have x1 := X1.out.cell
        have x2 := X2.out.cell
        have x2f := X2.out.thaw
        clear z00 z01 z02 z10 z11 zc2 zc3 hm IS EN AT KP q110 q55
        rw [show (false || (false && z3)) = false by simp] at hst
        have HN := Lib.hid (hnot hst)
        have HCL2 := Lib.hid (fun a b h => HCL.out a b (Con a b hst h))
        clear hnot Con Cstop hst HCL
        go_wp2
        go_roundg (D.a.length + D.b.length - (x + y))
        case measure => omega
        case rel => exact ⟨x, y, hstc.1, hstc.2.1, HN.out, Nat.le_refl _, HCL2.out, X0.out, X1.out, X2.out, HX.out⟩
      · cases z3
        · refine wp_region_quiet_below (by kernel_rfl) (by kernel_rfl) ?_
          repeat (go_big_quiet_step (first
            | (go_at_call 56; exact Calls.regrown_of (EN.out _ (hm.out _ _)))
            | (go_at_call 58; exact Calls.regrown_of (IS.out _ (hm.out _ _)))
            | (go_at_call 55; exact Calls.regrown_of (AT.out _ (hm.out _ _)))
            | (go_at_call 74; exact Calls.regrown_of (KP.out (by first | rfl | trivial) _ (hm.out _ _)))))
          refine wpQuiet_nil ?_
          intro _ hw'
          obtain ⟨⟨dq, osq⟩, hw''⟩ := hw'
          subst hw''
          have X0 := Lib.hid (Q0.out.below (below_regrown W dq osq) Q0.out.lt)
          have X1 := Lib.hid (Q1'.out.below (below_regrown W dq osq) Q1'.out.lt)
          have X2 := Lib.hid (Q2.out.below (below_regrown W dq osq) Q2.out.lt)
          have HX := Lib.hid (hm.out dq osq)
          generalize Go.Sort.grow (redrawn W dq) osq = WX at *
          have x1 := X1.out.cell
          have x2 := X2.out.cell
          have x2f := X2.out.thaw
          clear z00 z01 z02 z10 z11 zc2 zc3 hm IS EN AT KP q110 q55
          have HN := Lib.hid (hnot hst)
          have HCL2 := Lib.hid (fun a b h => HCL.out a b (Con a b hst h))
          clear hnot Con Cstop hst HCL
          go_wp2
          go_roundg (D.a.length + D.b.length - (x + y))
          case measure => omega
          case rel => exact ⟨x, y, hstc.1, hstc.2.1, HN.out, Nat.le_refl _, HCL2.out, X0.out, X1.out, X2.out, HX.out⟩
        · refine wp_region_quiet_below (by kernel_rfl) (by kernel_rfl) ?_
          repeat (go_big_quiet_step (first
            | (go_at_call 56; exact Calls.regrown_of (EN.out _ (hm.out _ _)))
            | (go_at_call 58; exact Calls.regrown_of (IS.out _ (hm.out _ _)))
            | (go_at_call 55; exact Calls.regrown_of (AT.out _ (hm.out _ _)))
            | (go_at_call 74; exact Calls.regrown_of (KP.out (by first | rfl | trivial) _ (hm.out _ _)))))
          refine wpQuiet_nil ?_
          intro _ hw'
          obtain ⟨⟨dq, osq⟩, hw''⟩ := hw'
          subst hw''
          have X0 := Lib.hid (Q0.out.below (below_regrown W dq osq) Q0.out.lt)
          have X1 := Lib.hid (Q1'.out.below (below_regrown W dq osq) Q1'.out.lt)
          have X2 := Lib.hid (Q2.out.below (below_regrown W dq osq) Q2.out.lt)
          have HX := Lib.hid (hm.out dq osq)
          generalize Go.Sort.grow (redrawn W dq) osq = WX at *
          have x1 := X1.out.cell
          have x2 := X2.out.cell
          have x2f := X2.out.thaw
          clear z00 z01 z02 z10 z11 zc2 zc3 hm IS EN AT KP q110 q55
          go_wp2
          refine bodyPost_ret ?_ rfl ⟨x, y, rfl, HCL.out _ _ (Cstop hst), ?_⟩
          · simp [results, Tryz.results59, go_sem, x2]
          · refine Below.setCell (Below.setCell HX.out ?_ _) ?_ _ <;> simp <;> omega
    · refine wp_region_quiet_below (by kernel_rfl) (by kernel_rfl) ?_
      repeat (go_big_quiet_step (first
        | (go_at_call 56; exact Calls.regrown_of (EN.out _ (hm.out _ _)))
        | (go_at_call 58; exact Calls.regrown_of (IS.out _ (hm.out _ _)))
        | (go_at_call 55; exact Calls.regrown_of (AT.out _ (hm.out _ _)))
        | (go_at_call 74; exact Calls.regrown_of (KP.out (by first | rfl | trivial) _ (hm.out _ _)))))
      refine wpQuiet_nil ?_
      intro _ hw'
      obtain ⟨⟨dq, osq⟩, hw''⟩ := hw'
      subst hw''
      have X0 := Lib.hid (Q0.out.below (below_regrown W dq osq) Q0.out.lt)
      have X1 := Lib.hid (Q1'.out.below (below_regrown W dq osq) Q1'.out.lt)
      have X2 := Lib.hid (Q2.out.below (below_regrown W dq osq) Q2.out.lt)
      have HX := Lib.hid (hm.out dq osq)
      generalize Go.Sort.grow (redrawn W dq) osq = WX at *
      have x1 := X1.out.cell
      have x2 := X2.out.cell
      have x2f := X2.out.thaw
      clear z00 z01 z02 z10 z11 zc2 zc3 hm IS EN AT KP q110 q55
      rw [show (true || (z2 && z3)) = true by simp] at hst
      go_wp2
      refine bodyPost_ret ?_ rfl ⟨x, y, rfl, HCL.out _ _ (Cstop hst), ?_⟩
      · simp [results, Tryz.results59, go_sem, x2]
      · refine Below.setCell (Below.setCell HX.out ?_ _) ?_ _ <;> simp <;> omega
end Go.Proofs.YthbmnnnlkgbieaaGreatDoor
/- Contracts: the gaps of the best way through both lists. -/
namespace Go.Proofs.YthbmnnnlkgbieaaGreatDoor
open Go.RowKit Go.Op

def gcells (G : List Dl.Gap) : List Value := G.flatMap fun g => [.int .i64 g.fo, .int .i64 g.fn, .int .i64 g.eo, .int .i64 g.en]
theorem gcells_snoc (G : List Dl.Gap) (g : Dl.Gap) : gcells (G ++ [g]) = gcells G ++ [.int .i64 g.fo, .int .i64 g.fn, .int .i64 g.eo, .int .i64 g.en] := by simp [gcells]
theorem info57 : (Tryz.prog.info? 57).map (fun i => (i.zero, i.size, i.bytes)) = some (some (.agg #[.int .i64 0, .int .i64 0, .int .i64 0, .int .i64 0]), 4, 32) := by kernel_rfl

/-- The way that the table tells. -/
inductive Tr (D : TD) : Nat → Nat → List Dl.Gap → Prop
  | done : Tr D D.a.length D.b.length []
  | keep (i j G) : D.isS i j = true → Tr D (i + 1) (j + 1) G → Tr D i j G
  | gap (i j a b G) : D.isS i j = false → i ≤ D.a.length → j ≤ D.b.length → ¬ (i = D.a.length ∧ j = D.b.length) → Cl D i j a b → Tr D a b G → Tr D i j (⟨i, j, a, b⟩ :: G)

theorem Cl.le {D : TD} {i j a b : Nat} (h : Cl D i j a b) (hi : i ≤ D.a.length) (hj : j ≤ D.b.length) (he : ¬ (i = D.a.length ∧ j = D.b.length)) :
    a ≤ D.a.length ∧ b ≤ D.b.length ∧ i + j < a + b ∧ i ≤ a ∧ j ≤ b ∧ D.stops a b = true := by
  induction h with
  | stop i j hs =>
    obtain ⟨h1, h2, h3⟩ := st_or D hi hj he
    refine ⟨h1, h2, by omega, ?_, ?_, hs⟩ <;> (unfold TD.st at *; cases D.toOld i j <;> simp)
  | on i j a b hs _ ih =>
    obtain ⟨h1, h2, h3⟩ := st_or D hi hj he
    have hn : ¬ ((D.st i j).1 = D.a.length ∧ (D.st i j).2 = D.b.length) := fun ⟨e1, e2⟩ => by
      unfold TD.stops Dl.stops at hs
      rw [e1, e2] at hs
      simp at hs
    obtain ⟨g1, g2, g3, g4, g5, g6⟩ := ih h1 h2 hn
    have : i ≤ (D.st i j).1 ∧ j ≤ (D.st i j).2 := by unfold TD.st; cases D.toOld i j <;> simp
    exact ⟨g1, g2, by omega, by omega, by omega, g6⟩

theorem own_ne_row {w : World} {B e size n b t : Nat} {v : Value} {xs : List Value} {cs : Array Value} (h : w.ownsRow B e size v n xs) (R : RowB w b t cs) (ht : t ≠ e) : v.ownBlock ≠ some b := fun he => by
  obtain ⟨c, fz, hh⟩ := Lib.ownsRow_kind h b he
  unfold RowB at R
  rw [R] at hh
  injection hh with hh
  injection hh with _ h2 _
  exact ht h2

def Cut6 (D : TD) (wr : World) (i j : Nat) (s5 : Value) (wx : World) : Prop :=
  ∃ a b b5 : Nat, s5 = .pointer (some ⟨b5, 0, none⟩) ∧ wr.heap.size ≤ b5 ∧ Cl D i j a b ∧ RowB wx b5 57 #[.int .i64 i, .int .i64 j, .int .i64 a, .int .i64 b] ∧ Below wr.heap.size wr wx

abbrev Held6 (D : TD) (w w2 : World) (i j b4 : Nat) (w' : World) : Prop :=
  (∀ o, w'.cell? ⟨w.heap.size, o, none⟩ = #[.slice D.Aa D.a.length D.ca, .slice D.Ab D.b.length D.cb, D.fv][o]?) ∧ (∀ o, w'.cell? ⟨b4, o, none⟩ = #[Value.int .i64 i, .int .i64 j][o]?) ∧ Below w2.heap.size w2 w' ∧ b4 < w'.heap.size ∧ w.heap.size < w'.heap.size
theorem held6 {D : TD} {w w2 w' w3 : World} {i j b4 : Nat} (h : Held6 D w w2 i j b4 w') (hb : Below w'.heap.size w' w3) : Held6 D w w2 i j b4 w3 := by
  obtain ⟨h0, h1, h2, h3, h4⟩ := h
  have hs := hb.size
  exact ⟨fun o => (hb.cell (p := ⟨w.heap.size, o, none⟩) h4).trans (h0 o), fun o => (hb.cell (p := ⟨b4, o, none⟩) h3).trans (h1 o), h2.trans (hb.mono h2.size), by omega, by omega⟩
theorem held6a {D : TD} {w w2 w' : World} {i j b4 : Nat} (h : Held6 D w w2 i j b4 w') (o : Obj) : Held6 D w w2 i j b4 (w'.alloc o) := held6 h (bel1 w' o)
theorem held6o {D : TD} {w w2 w' u : World} {i j b4 : Nat} (hu : Held6 D w w2 i j b4 u) (h : Held6 D w w2 i j b4 w') (k : Nat) (x : Value) : Held6 D w w2 i j b4 (w'.setCell ⟨u.heap.size, k, none⟩ x) := by
  obtain ⟨h0, h1, h2, h3, h4⟩ := h
  obtain ⟨_, _, g2, g3, g4⟩ := hu
  refine ⟨fun o => ?_, fun o => ?_, h2.setCell g2.size _, by simpa using h3, by simpa using h4⟩
  · rw [World.cell?_setCell_far _ _ _ _ (by show u.heap.size ≠ w.heap.size; omega)]; exact h0 o
  · rw [World.cell?_setCell_far _ _ _ _ (by show u.heap.size ≠ b4; omega)]; exact h1 o
theorem held6p {D : TD} {w w2 w' u : World} {i j b4 : Nat} (hu : Held6 D w w2 i j b4 u) (h : Held6 D w w2 i j b4 w') (x0 x1 x2 x3 : Value) :
    Held6 D w w2 i j b4 ((((w'.setCell ⟨u.heap.size, 0, none⟩ x0).setCell ⟨u.heap.size, 1, none⟩ x1).setCell ⟨u.heap.size, 2, none⟩ x2).setCell ⟨u.heap.size, 3, none⟩ x3) :=
  held6o hu (held6o hu (held6o hu (held6o hu h 0 x0) 1 x1) 2 x2) 3 x3
theorem held6f {D : TD} {w w2 w' : World} {i j b4 : Nat} (hF : Full w D) (hw : Below w.heap.size w w2) (h : Held6 D w w2 i j b4 w') : Full w' D := hF.below (hw.trans (h.2.2.1.mono hw.size))

set_option maxHeartbeats 8000000 in
set_option maxRecDepth 100000 in
theorem gaps_any (D : TD) (w : World) (hF : Full w D) :
    Calls Tryz.prog 43 #[D.tv] w fun e w' => ∃ (G : List Dl.Gap) (v : Value), e = .returned v ∧ w'.ownsRow w.heap.size 57 4 v G.length (gcells G) ∧ Tr D 0 0 G ∧ Below w.heap.size w w' := by
  have hN := hF.tb.hN
  have hk := hF.tb.hk
  have hl := @len_lt D
  have HF := Lib.hid hF
  clear hF
  have hnew : RowB ((w.alloc (.cells #[.slice D.Aa D.a.length D.ca, .slice D.Ab D.b.length D.cb, D.fv] 90)).alloc (.cells #[.int .i64 0, .int .i64 0] 55)) w.heap.size 90 #[.slice D.Aa D.a.length D.ca, .slice D.Ab D.b.length D.cb, D.fv] ∧
      RowB ((w.alloc (.cells #[.slice D.Aa D.a.length D.ca, .slice D.Ab D.b.length D.cb, D.fv] 90)).alloc (.cells #[.int .i64 0, .int .i64 0] 55)) (w.heap.size + 1) 55 #[.int .i64 0, .int .i64 0] := new2 w _ _
  have HNEW := Lib.hid hnew
  clear hnew
  go_enter Tryz.func43, Tryz.ntmps43
  go_wp2_with fail
  go_loopg [3, 4] (D.a.length + D.b.length + 1) (fun kx v p wr => ∃ (i j b4 : Nat) (G : List Dl.Gap) (u : Value), u = v ∧ p = .pointer (some ⟨b4, 0, none⟩) ∧ i ≤ D.a.length ∧ j ≤ D.b.length ∧ D.a.length + D.b.length - (i + j) ≤ kx ∧ G.length ≤ i + j ∧ w.heap.size < b4 ∧
    Hid (∀ G', Tr D i j G' → Tr D 0 0 (G ++ G')) ∧ Hid (RowB wr w.heap.size 90 #[.slice D.Aa D.a.length D.ca, .slice D.Ab D.b.length D.cb, D.fv]) ∧ Hid (RowB wr b4 55 #[.int .i64 i, .int .i64 j]) ∧ Hid (wr.ownsRow w.heap.size 57 4 v G.length (gcells G)) ∧ Hid (Below w.heap.size w wr))
  case atStart =>
    exact ⟨0, 0, w.heap.size + 1, [], _, rfl, rfl, by omega, by omega, by omega, by simp, by omega, fun _ h => h, HNEW.out.1, HNEW.out.2, World.ownsRow_nil _ _ _ _, bel2 _ _ _⟩
  case round =>
    obtain ⟨i, j, b4, G, u, rfl, rfl, hi, hj, hkx, hG, hb4, HT, R0, R1, HO, HB⟩ := hrel
    have r0 := R0.out.cell
    have r1 := R1.out.cell
    have r1f := R1.out.thaw
    have EN : Hid (∀ w' : World, Calls Tryz.prog 56 #[D.tv] w' fun e w'' => e = .returned (sp D.a.length D.b.length) ∧ Below w'.heap.size w' w'') := fun w' => end_any D w' hN
    have q55 := fun u => neq55 i j D.a.length D.b.length u
    have z0 := fun d os => cell_regrown (R0.out.cell 0) d os
    have z1 := fun d os => cell_regrown (R0.out.cell 1) d os
    have z2 := fun d os => cell_regrown (R0.out.cell 2) d os
    have z3 := fun d os => cell_regrown (R1.out.cell 0) d os
    have z4 := fun d os => cell_regrown (R1.out.cell 1) d os
    by_cases he : i = D.a.length ∧ j = D.b.length
    · obtain ⟨rfl, rfl⟩ := he
      have hq : (!(decide ((D.a.length : Int) = (D.a.length : Int)) && decide ((D.b.length : Int) = (D.b.length : Int)))) = false := by simp
      rw [hq] at q55
      go_wp2_with fail
      refine wp_region_quiet_below (by kernel_rfl) (by kernel_rfl) ?_
      repeat (go_big_quiet_step (first
        | (go_at_call 56; exact Calls.regrown_of (EN.out _))))
      refine wpQuiet_nil ?_
      intro _ hw'
      obtain ⟨⟨dq, osq⟩, hw''⟩ := hw'
      subst hw''
      have XO := Lib.hid (own_bel HO.out (below_regrown wr dq osq))
      have HX := Lib.hid (HB.out.trans ((below_regrown wr dq osq).mono HB.out.size))
      have HTd := Lib.hid (HT.out [] Tr.done)
      generalize Go.Sort.grow (redrawn wr dq) osq = WX at *
      clear z0 z1 z2 z3 z4 q55 r0 r1 r1f R0 R1 HO HB EN hq HT
      go_wp2
      go_ret
      exact ⟨G, _, rfl, XO.out, by rw [← List.append_nil G]; exact HTd.out, HX.out⟩
    · have hq : (!(decide ((i : Int) = (D.a.length : Int)) && decide ((j : Int) = (D.b.length : Int)))) = true := by simp; omega
      rw [hq] at q55
      go_wp2_with fail
      refine wp_region_quiet_below (by kernel_rfl) (by kernel_rfl) ?_
      repeat (go_big_quiet_step (first
        | (go_at_call 56; exact Calls.regrown_of (EN.out _))))
      refine wpQuiet_nil ?_
      intro _ hw'
      obtain ⟨⟨dq, osq⟩, hw''⟩ := hw'
      subst hw''
      have X0 := Lib.hid (R0.out.below (below_regrown wr dq osq) R0.out.lt)
      have X1 := Lib.hid (R1.out.below (below_regrown wr dq osq) R1.out.lt)
      have XO := Lib.hid (own_bel HO.out (below_regrown wr dq osq))
      have HX := Lib.hid (HB.out.trans ((below_regrown wr dq osq).mono HB.out.size))
      generalize Go.Sort.grow (redrawn wr dq) osq = WX at *
      have x0 := X0.out.cell
      have x1 := X1.out.cell
      clear z0 z1 z2 z3 z4 q55 r0 r1 r1f R0 R1 HO HB EN hq
      have CI := Lib.hid (isS_any D i j WX (HF.out.below HX.out).tb hi hj)
      obtain ⟨z, hz⟩ : ∃ z, z = D.isS i j := ⟨_, rfl⟩
      rw [← hz] at CI
      have HZ := Lib.hid hz
      clear hz
      go_wp2_with fail
      refine CI.out.mono ?_
      rintro e w2 ⟨rfl, hb2⟩
      have Y0 := Lib.hid (X0.out.below hb2 X0.out.lt)
      have Y1 := Lib.hid (X1.out.below hb2 X1.out.lt)
      have YO := Lib.hid (own_bel XO.out hb2)
      have HY := Lib.hid (HX.out.trans (hb2.mono HX.out.size))
      clear hb2 CI X0 X1 XO HX x0 x1
      have y0 := Y0.out.cell
      have y1 := Y1.out.cell
      have y1f := Y1.out.thaw
      cases z
      · have hlt4 : w.heap.size < w2.heap.size := Nat.lt_of_le_of_lt (Nat.le_of_lt hb4) Y1.out.lt
        have HS0 : Held6 D w w2 i j b4 w2.drew := ⟨y0, y1, (Below.refl _ _).drew, Y1.out.lt, hlt4⟩
        have HS1 : Held6 D w w2 i j b4 w2 := ⟨y0, y1, Below.refl _ _, Y1.out.lt, hlt4⟩
        have HSD : ∀ o, Held6 D w w2 i j b4 (w2.alloc o).drew := fun o => ⟨(held6a HS1 o).1, (held6a HS1 o).2.1, (held6a HS1 o).2.2.1.drew, (held6a HS1 o).2.2.2.1, (held6a HS1 o).2.2.2.2⟩
        go_upto_region 6 with fail
        go_cut [5] from 21 to 32 (fun s5 wx => Cut6 D w2 i j s5 wx)
        case first =>
          go_region_held3 (fun w' => (∀ o, w'.cell? ⟨w.heap.size, o, none⟩ = #[.slice D.Aa D.a.length D.ca, .slice D.Ab D.b.length D.cb, D.fv][o]?) ∧ (∀ o, w'.cell? ⟨b4, o, none⟩ = #[Value.int .i64 i, .int .i64 j][o]?) ∧ Below w2.heap.size w2 w' ∧ b4 < w'.heap.size ∧ w.heap.size < w'.heap.size)
            (first
              | (with_reducible exact HS0)
              | (with_reducible exact held6 (by assumption) hbn)
              | (with_reducible exact HSD _)
              | (with_reducible exact held6a hSc _)
              | (with_reducible exact held6p HS1 hSc _ _ _ _))
            ((go_at_call 59; refine (close_any D i j _ ?_ hi hj he).mono ?_; (exact held6f HF.out HY.out (by assumption)); rintro e w' ⟨a, b, rfl, hcl, hbn⟩; have hSc := held6 (by assumption : Held6 D w w2 i j b4 _) hbn; obtain ⟨hbc, hbf⟩ := bcell hbn))
          · go_wp2_with fail
            go_meet
            exact ⟨a, b, _, rfl, hSc.2.2.1.size, hcl, RowB.new _ _ _, hSc.2.2.1.alloc hSc.2.2.1.size _⟩
          · go_wp2_with fail
            go_meet
            have Rn0 : RowB (w2.alloc (.cells #[.int .i64 0, .int .i64 0, .int .i64 0, .int .i64 0] 57)).drew w2.heap.size 57 #[.int .i64 0, .int .i64 0, .int .i64 0, .int .i64 0] := RowB.new w2 57 _
            have Rn := (((((Rn0.below hbn Rn0.lt).put 0 (.int .i64 i)).put 1 (.int .i64 j)).put 2 (.int .i64 a)).put 3 (.int .i64 b))
            exact ⟨a, b, _, rfl, Nat.le_refl _, hcl, Rn, (((hSc.2.2.1.setCell (Nat.le_refl _) _).setCell (Nat.le_refl _) _).setCell (Nat.le_refl _) _).setCell (Nat.le_refl _) _⟩
        case rest =>
        obtain ⟨a, b, b5, rfl, hb5, hcl, R5, hbx⟩ := hcut
        obtain ⟨ha1, hb1, hab, hia, hjb, hst⟩ := hcl.le hi hj he
        have r5 := R5.cell
        have Z0 := Lib.hid (Y0.out.below hbx Y0.out.lt)
        have Z1 := Lib.hid (Y1.out.below hbx Y1.out.lt)
        have Z5 := Lib.hid R5
        have hO := own_bel YO.out hbx
        have HZB := Lib.hid (HY.out.trans (hbx.mono HY.out.size))
        have HTg : Hid (∀ G', Tr D a b G' → Tr D 0 0 ((G ++ [⟨i, j, a, b⟩]) ++ G')) := fun G' h => by
          rw [List.append_assoc]
          exact HT.out _ (Tr.gap i j a b G' HZ.out.symm hi hj he hcl h)
        have b3 : G.length + 1 ≤ maxLen := by unfold maxLen; omega
        have b4s : (G.length + 1) * 32 ≤ 140737488355328 := by omega
        have hbs : w.heap.size ≤ wc.heap.size := HZB.out.size
        have b5s : w.heap.size ≤ (wc.alloc (.cells #[.int .i64 i, .int .i64 j, .int .i64 a, .int .i64 b] 57)).heap.size := by simp; omega
        have cn : ∀ (k : Nat) (x : Value), [Value.int .i64 i, .int .i64 j, .int .i64 a, .int .i64 b][k]? = some x → (wc.alloc (.cells #[.int .i64 i, .int .i64 j, .int .i64 a, .int .i64 b] 57)).cell? ((⟨wc.heap.size, 0, none⟩ : Addr).add k) = some x := fun k x hx => by
          have h0 := (RowB.new wc 57 #[.int .i64 i, .int .i64 j, .int .i64 a, .int .i64 b]).cell k
          have e1 : ((⟨wc.heap.size, 0, none⟩ : Addr).add k) = ⟨wc.heap.size, k, none⟩ := by simp [Addr.add]; rintro rfl; rfl
          rw [e1, h0, ← hx]
          simp
        have CN := Lib.hid cn
        have on4 : ∀ x ∈ [Value.int .i64 i, .int .i64 j, .int .i64 a, .int .i64 b], x.oneCell' = true := by simp [Value.oneCell']
        have hne := own_ne_row hO Z1.out (by decide)
        have hne0 := own_ne_row hO Z0.out (by decide)
        have HO := Lib.hid hO
        clear cn hcl R5 hbx HT hst HS0 HS1 HSD y0 y1 y1f
        obtain ⟨i0, hi0, hz0, hz1, hz2⟩ := info_parts info57
        go_wp2_with (at_builtin; refine wpList_append_own _ rfl (.tmp 26) (.tmp 28) 52 rfl w.heap.size 57 i0 (.agg #[.int .i64 0, .int .i64 0, .int .i64 0, .int .i64 0]) 4 32 Tryz.underlying52 hi0 hz0 hz1 hz2 rfl (by decide) _ _ _ rfl (HO.out.alloc _) ⟨wc.heap.size, 0, none⟩ 1 1 [.int .i64 i, .int .i64 j, .int .i64 a, .int .i64 b] rfl rfl CN.out on4 b3 b4s b5s ?_)
        intro v' w3 hown' hgrow _
        have hne5 : u.ownBlock ≠ some b5 := fun hh => by have := (YO.out.lt b5 hh).2; omega
        have T0 := Lib.hid ((Z0.out.alloc (.cells #[.int .i64 i, .int .i64 j, .int .i64 a, .int .i64 b] 57)).grown hgrow (fun h => hne0 h.symm))
        have T1 := Lib.hid ((Z1.out.alloc (.cells #[.int .i64 i, .int .i64 j, .int .i64 a, .int .i64 b] 57)).grown hgrow (fun h => hne h.symm))
        have T5 := Lib.hid ((Z5.out.alloc (.cells #[.int .i64 i, .int .i64 j, .int .i64 a, .int .i64 b] 57)).grown hgrow (fun h => hne5 h.symm))
        have B3 := Lib.hid ((HZB.out.alloc hbs (.cells #[.int .i64 i, .int .i64 j, .int .i64 a, .int .i64 b] 57)).grown hgrow b5s (fun x hx => (HO.out.lt x hx).1))
        have hO4 : w3.ownsRow w.heap.size 57 4 v' (G ++ [(⟨i, j, a, b⟩ : Dl.Gap)]).length (gcells (G ++ [⟨i, j, a, b⟩])) := by
          rw [gcells_snoc, List.length_append]; exact hown'
        have hne4 := own_ne_row hO4 T1.out (by decide)
        have hbs3 : w.heap.size ≤ w3.heap.size := B3.out.size
        have hl4 := T1.out.lt
        have t5 := T5.out.cell
        have t1 := T1.out.cell
        have t1f := T1.out.thaw
        have N0 := Lib.hid (((T0.out.far (p := ⟨b4, 0, none⟩) (by simp; omega) (.int .i64 a)).far (p := ⟨b4, 1, none⟩) (by simp; omega) (.int .i64 b)).alloc (.cells #[.int .i64 a, .int .i64 b] 55))
        have N1 := Lib.hid (RowB.new ((w3.setCell ⟨b4, 0, none⟩ (.int .i64 a)).setCell ⟨b4, 1, none⟩ (.int .i64 b)) 55 #[.int .i64 a, .int .i64 b])
        have NO := Lib.hid ((ownsRow_setCell_other (ownsRow_setCell_other hO4 (a := ⟨b4, 0, none⟩) hne4 (.int .i64 a)) (a := ⟨b4, 1, none⟩) hne4 (.int .i64 b)).alloc (.cells #[.int .i64 a, .int .i64 b] 55))
        have NB := Lib.hid (((B3.out.setCell (p := ⟨b4, 0, none⟩) (by simp; omega) (.int .i64 a)).setCell (p := ⟨b4, 1, none⟩) (by simp; omega) (.int .i64 b)).alloc (by simp; omega) (.cells #[.int .i64 a, .int .i64 b] 55))
        clear hown' hgrow hO hO4 CN on4 b3 b4s r5 hne hne0 hne5 hne4
        go_wp2_with fail
        go_roundg (D.a.length + D.b.length - (a + b))
        case measure => omega
        case rel =>
          refine ⟨a, b, w3.heap.size, G ++ [(⟨i, j, a, b⟩ : Dl.Gap)], _, rfl, by simp, by omega, by omega, Nat.le_refl _, by simp; omega, by omega, HTg.out, N0.out, ?_, NO.out, NB.out⟩
          simpa [Hid] using N1.out
      · have HTk : Hid (∀ G', Tr D (i + 1) (j + 1) G' → Tr D 0 0 (G ++ G')) := fun G' h => HT.out G' (Tr.keep i j G' HZ.out.symm h)
        have hzz := HZ.out.symm
        unfold TD.isS Dl.isS at hzz
        simp only [Bool.and_eq_true, decide_eq_true_eq] at hzz
        have hin : i < D.a.length ∧ j < D.b.length := hzz.1
        have hl4 := Y1.out.lt
        have N0 := Lib.hid (((Y0.out.far (p := ⟨b4, 0, none⟩) (by simp; omega) (.int .i64 ((i : Int) + 1))).far (p := ⟨b4, 1, none⟩) (by simp; omega) (.int .i64 ((j : Int) + 1))).alloc (.cells #[.int .i64 ((i : Int) + 1), .int .i64 ((j : Int) + 1)] 55))
        have N1 := Lib.hid (RowB.new ((w2.setCell ⟨b4, 0, none⟩ (.int .i64 ((i : Int) + 1))).setCell ⟨b4, 1, none⟩ (.int .i64 ((j : Int) + 1))) 55 #[.int .i64 ((i : Int) + 1), .int .i64 ((j : Int) + 1)])
        have NO := Lib.hid ((ownsRow_setCell_other (ownsRow_setCell_other YO.out (a := ⟨b4, 0, none⟩) (own_ne_row YO.out Y1.out (by decide)) (.int .i64 ((i : Int) + 1))) (a := ⟨b4, 1, none⟩) (own_ne_row YO.out Y1.out (by decide)) (.int .i64 ((j : Int) + 1))).alloc (.cells #[.int .i64 ((i : Int) + 1), .int .i64 ((j : Int) + 1)] 55))
        have NB := Lib.hid (((HY.out.setCell (p := ⟨b4, 0, none⟩) (by simp; omega) (.int .i64 ((i : Int) + 1))).setCell (p := ⟨b4, 1, none⟩) (by simp; omega) (.int .i64 ((j : Int) + 1))).alloc (by have := HY.out.size; simp; omega) (.cells #[.int .i64 ((i : Int) + 1), .int .i64 ((j : Int) + 1)] 55))
        clear HT hzz HZ
        go_wp2_with fail
        go_roundg (D.a.length + D.b.length - (i + 1 + (j + 1)))
        case measure => omega
        case rel =>
          refine ⟨i + 1, j + 1, w2.heap.size, G, _, rfl, by simp, by omega, by omega, Nat.le_refl _, by omega, by omega, HTk.out, N0.out, ?_, NO.out, NB.out⟩
          have := N1.out
          simpa [Hid] using this
end Go.Proofs.YthbmnnnlkgbieaaGreatDoor
/- Contracts: the table is filled, from the lists' ends on. -/
namespace Go.Proofs.YthbmnnnlkgbieaaGreatDoor
open Go.RowKit Go.Op

theorem info112 : (Tryz.prog.info? 112).map (fun i => (i.zero, i.size, i.bytes)) = some (some (.agg #[.int .i32 0, .int .i32 0, .int .i32 0, .int .i32 0]), 4, 16) := by kernel_rfl

/-- A cell of a table, in a row of values. -/
def cell4 (A : Array Value) (o : Nat) (c : Dl.Sc × Dl.Sc) : Prop :=
  A[o * 4]? = some (.int .i32 c.1.k) ∧ A[o * 4 + 1]? = some (.int .i32 c.1.g) ∧ A[o * 4 + 2]? = some (.int .i32 c.2.k) ∧ A[o * 4 + 3]? = some (.int .i32 c.2.g)
def put4 (A : Array Value) (o : Nat) (c : Dl.Sc × Dl.Sc) : Array Value :=
  (((A.setIfInBounds (o * 4) (.int .i32 c.1.k)).setIfInBounds (o * 4 + 1) (.int .i32 c.1.g)).setIfInBounds (o * 4 + 2) (.int .i32 c.2.k)).setIfInBounds (o * 4 + 3) (.int .i32 c.2.g)
theorem size_put4 (A : Array Value) (o : Nat) (c : Dl.Sc × Dl.Sc) : (put4 A o c).size = A.size := by simp [put4]
theorem put4_same {A : Array Value} {o : Nat} (c : Dl.Sc × Dl.Sc) (h : o * 4 + 4 ≤ A.size) : cell4 (put4 A o c) o c := by
  unfold cell4 put4
  have h0 : o * 4 < A.size := by omega
  have h1 : o * 4 + 1 < A.size := by omega
  have h2 : o * 4 + 2 < A.size := by omega
  have h3 : o * 4 + 3 < A.size := by omega
  refine ⟨?_, ?_, ?_, ?_⟩ <;> simp [h0, h1, h2, h3]
theorem put4_other {A : Array Value} {o o' : Nat} {c c' : Dl.Sc × Dl.Sc} (h : cell4 A o' c') (hne : o ≠ o') : cell4 (put4 A o c) o' c' := by
  unfold cell4 put4 at *
  obtain ⟨h0, h1, h2, h3⟩ := h
  refine ⟨?_, ?_, ?_, ?_⟩
  · simp only [Array.getElem?_setIfInBounds]
    rw [if_neg (by omega), if_neg (by omega), if_neg (by omega), if_neg (by omega)]; exact h0
  · simp only [Array.getElem?_setIfInBounds]
    rw [if_neg (by omega), if_neg (by omega), if_neg (by omega), if_neg (by omega)]; exact h1
  · simp only [Array.getElem?_setIfInBounds]
    rw [if_neg (by omega), if_neg (by omega), if_neg (by omega), if_neg (by omega)]; exact h2
  · simp only [Array.getElem?_setIfInBounds]
    rw [if_neg (by omega), if_neg (by omega), if_neg (by omega), if_neg (by omega)]; exact h3
theorem cell4_at {w : World} {ck o t : Nat} {A : Array Value} {c : Dl.Sc × Dl.Sc} (R : RowB w ck t A) (h : cell4 A o c) : CellAt w ck o c :=
  ⟨(R.cell _).trans h.1, (R.cell _).trans h.2.1, (R.cell _).trans h.2.2.1, (R.cell _).trans h.2.2.2⟩
theorem off_inj {D : TD} {i j i' j' : Nat} (hj : j ≤ D.b.length) (hj' : j' ≤ D.b.length) (h : D.off i j = D.off i' j') : i = i' ∧ j = j' := by
  unfold TD.off at h
  have h1 : (i * (D.b.length + 1) + j) / (D.b.length + 1) = i := by
    rw [Nat.mul_comm, Nat.mul_add_div (by omega), Nat.div_eq_of_lt (by omega)]; omega
  have h2 : (i' * (D.b.length + 1) + j') / (D.b.length + 1) = i' := by
    rw [Nat.mul_comm, Nat.mul_add_div (by omega), Nat.div_eq_of_lt (by omega)]; omega
  rw [h, h2] at h1
  subst h1
  exact ⟨rfl, by omega⟩
theorem made_zero (N o : Nat) (h : o < N) : cell4 (madeCells (Value.agg #[.int .i32 0, .int .i32 0, .int .i32 0, .int .i32 0]).cells (N * 4)) o (⟨0, 0⟩, ⟨0, 0⟩) := by
  have hc : (Value.agg #[.int .i32 0, .int .i32 0, .int .i32 0, .int .i32 0]).cells = #[.int .i32 0, .int .i32 0, .int .i32 0, .int .i32 0] := by rfl
  rw [hc]
  have key : ∀ k, k < 4 → (madeCells #[Value.int .i32 0, .int .i32 0, .int .i32 0, .int .i32 0] (N * 4))[o * 4 + k]? = some (.int .i32 0) := fun k hk => by
    unfold madeCells
    rw [Array.getElem?_map, Array.getElem?_range, if_pos (by omega)]
    simp only [Option.map_some]
    have h4 : (o * 4 + k) % (#[Value.int .i32 0, .int .i32 0, .int .i32 0, .int .i32 0] : Array Value).size = k := by
      show (o * 4 + k) % 4 = k
      omega
    rw [h4]
    rcases k with _ | _ | _ | _ | k
    · rfl
    · rfl
    · rfl
    · rfl
    · omega
  exact ⟨key 0 (by omega), key 1 (by omega), key 2 (by omega), key 3 (by omega)⟩
end Go.Proofs.YthbmnnnlkgbieaaGreatDoor
/- Contracts: package delta's reckon fills its table. -/
namespace Go.Proofs.YthbmnnnlkgbieaaGreatDoor
open Go.RowKit Go.Op

/-- What is held while a cell is laid. -/
abbrev Held8 (D : TD) (t6 t9 : Nat) (i j : Nat) (q : Nat) (w' : World) : Prop :=
  (∀ o, w'.cell? ⟨t6, o, none⟩ = #[.slice D.Aa D.a.length D.ca, .slice D.Ab D.b.length D.cb, D.fv][o]?) ∧ (∀ o, w'.cell? ⟨t9, o, none⟩ = #[Value.int .i64 i, .int .i64 j][o]?) ∧ (∀ o, w'.frozen? ⟨D.ck, o, none⟩ = false) ∧
  w'.cell? ⟨D.ck, q * 4, none⟩ = some (cur w' ⟨D.ck, q * 4, none⟩) ∧ w'.cell? ⟨D.ck, q * 4 + 1, none⟩ = some (cur w' ⟨D.ck, q * 4 + 1, none⟩) ∧ w'.cell? ⟨D.ck, q * 4 + 2, none⟩ = some (cur w' ⟨D.ck, q * 4 + 2, none⟩) ∧ w'.cell? ⟨D.ck, q * 4 + 3, none⟩ = some (cur w' ⟨D.ck, q * 4 + 3, none⟩) ∧
  t6 < w'.heap.size ∧ t9 < w'.heap.size ∧ D.ck < w'.heap.size
theorem Held8.call {D : TD} {t6 t9 i j q : Nat} {w' w2 : World} (h : Held8 D t6 t9 i j q w') (hb : Below w'.heap.size w' w2) : Held8 D t6 t9 i j q w2 := by
  obtain ⟨h0, h1, h2, h3, h4, h5, h6, l0, l1, l2⟩ := h
  have hs := hb.size
  have c := fun (p : Addr) (hp : p.block < w'.heap.size) => hb.cell hp
  exact ⟨fun o => (c ⟨t6, o, none⟩ l0).trans (h0 o), fun o => (c ⟨t9, o, none⟩ l1).trans (h1 o), fun o => (hb.frozen (p := ⟨D.ck, o, none⟩) l2).trans (h2 o),
    cur_some ((c _ l2).trans h3), cur_some ((c _ l2).trans h4), cur_some ((c _ l2).trans h5), cur_some ((c _ l2).trans h6), by omega, by omega, by omega⟩
theorem Held8.one {D : TD} {t6 t9 i j q : Nat} {w' : World} (h : Held8 D t6 t9 i j q w') (n6 : t6 ≠ D.ck) (n9 : t9 ≠ D.ck) (k : Nat) (u : Value) : Held8 D t6 t9 i j q (w'.setCell ⟨D.ck, k, none⟩ u) := by
  obtain ⟨h0, h1, h2, h3, h4, h5, h6, l0, l1, l2⟩ := h
  have key : ∀ (o : Nat), w'.cell? ⟨D.ck, o, none⟩ = some (cur w' ⟨D.ck, o, none⟩) → (w'.setCell ⟨D.ck, k, none⟩ u).cell? ⟨D.ck, o, none⟩ = some (cur (w'.setCell ⟨D.ck, k, none⟩ u) ⟨D.ck, o, none⟩) := fun o ho => by
    obtain ⟨x, hx⟩ := cell?_setCell_some (w := w') (p := ⟨D.ck, k, none⟩) (x := u) (q := ⟨D.ck, o, none⟩) ho
    exact cur_some hx
  refine ⟨fun o => ?_, fun o => ?_, fun o => ?_, key _ h3, key _ h4, key _ h5, key _ h6, by simpa using l0, by simpa using l1, by simpa using l2⟩
  · rw [World.cell?_setCell_far _ _ _ _ (by show D.ck ≠ t6; omega)]; exact h0 o
  · rw [World.cell?_setCell_far _ _ _ _ (by show D.ck ≠ t9; omega)]; exact h1 o
  · simp [h2]
theorem Held8.put {D : TD} {t6 t9 i j q : Nat} {w' : World} (h : Held8 D t6 t9 i j q w') (n6 : t6 ≠ D.ck) (n9 : t9 ≠ D.ck) (a b c d : Value) :
    Held8 D t6 t9 i j q ((((w'.setCell ⟨D.ck, q * 4, none⟩ a).setCell ⟨D.ck, q * 4 + 1, none⟩ b).setCell ⟨D.ck, q * 4 + 2, none⟩ c).setCell ⟨D.ck, q * 4 + 3, none⟩ d) :=
  (((h.one n6 n9 _ a).one n6 n9 _ b).one n6 n9 _ c).one n6 n9 _ d

theorem step_bel {w w1 w2 : World} (h : Below w.heap.size w w1) (h' : Below w1.heap.size w1 w2) : Below w.heap.size w w2 := h.trans (h'.mono h.size)

/-- The table while it is filled: A are its cells. -/
structure RK (D : TD) (w : World) (A : Array Value) (wr : World) : Prop where
  size : A.size = D.N * 4
  last : cell4 A (D.off D.a.length D.b.length) (D.C D.a.length D.b.length)
  r3 : RowB wr D.bb 76 #[.slice D.Ab D.b.length D.cb]
  r4 : RowB wr (w.heap.size + 1) 90 #[.slice none 0 0, .slice none 0 0, .nilFunc]
  rc : RowB wr D.ck 112 A
  rv : RowB wr D.vb 107 #[.slice (some ⟨D.ck, 0, none⟩) D.N D.N]
  r6 : RowB wr (w.heap.size + 4) 90 #[.slice D.Aa D.a.length D.ca, .slice D.Ab D.b.length D.cb, D.fv]
  bel : Below w.heap.size w wr
theorem RK.below {D : TD} {w wr w' : World} {A : Array Value} (h : RK D w A wr) (hb : Below wr.heap.size wr w') : RK D w A w' :=
  ⟨h.size, h.last, h.r3.below hb h.r3.lt, h.r4.below hb h.r4.lt, h.rc.below hb h.rc.lt, h.rv.below hb h.rv.lt, h.r6.below hb h.r6.lt, h.bel.trans (hb.mono h.bel.size)⟩
theorem RK.put {D : TD} {w wr : World} {A : Array Value} (h : RK D w A wr) (hck : D.ck = w.heap.size + 2) (hvb : D.vb = w.heap.size + 3) (hbb : D.bb = w.heap.size) {i j : Nat} (hj : j ≤ D.b.length) (he : ¬ (i = D.a.length ∧ j = D.b.length)) (c : Dl.Sc × Dl.Sc) :
    RK D w (put4 A (D.off i j) c) ((((wr.setCell ⟨D.ck, D.off i j * 4, none⟩ (.int .i32 c.1.k)).setCell ⟨D.ck, D.off i j * 4 + 1, none⟩ (.int .i32 c.1.g)).setCell ⟨D.ck, D.off i j * 4 + 2, none⟩ (.int .i32 c.2.k)).setCell ⟨D.ck, D.off i j * 4 + 3, none⟩ (.int .i32 c.2.g)) := by
  have far : ∀ (g t : Nat) (cs : Array Value), g ≠ D.ck → RowB wr g t cs → RowB ((((wr.setCell ⟨D.ck, D.off i j * 4, none⟩ (.int .i32 c.1.k)).setCell ⟨D.ck, D.off i j * 4 + 1, none⟩ (.int .i32 c.1.g)).setCell ⟨D.ck, D.off i j * 4 + 2, none⟩ (.int .i32 c.2.k)).setCell ⟨D.ck, D.off i j * 4 + 3, none⟩ (.int .i32 c.2.g)) g t cs := fun g t cs hg R =>
    (((R.far (p := ⟨D.ck, _, none⟩) hg _).far (p := ⟨D.ck, _, none⟩) hg _).far (p := ⟨D.ck, _, none⟩) hg _).far (p := ⟨D.ck, _, none⟩) hg _
  refine ⟨by rw [size_put4]; exact h.size, put4_other h.last (fun e => he (off_inj hj (Nat.le_refl _) e)), far _ _ _ (by omega) h.r3, far _ _ _ (by omega) h.r4, (((h.rc.put _ _).put _ _).put _ _).put _ _, far _ _ _ (by omega) h.rv, far _ _ _ (by omega) h.r6, ?_⟩
  exact (((h.bel.setCell (p := ⟨D.ck, _, none⟩) (by simp; omega) _).setCell (p := ⟨D.ck, _, none⟩) (by simp; omega) _).setCell (p := ⟨D.ck, _, none⟩) (by simp; omega) _).setCell (p := ⟨D.ck, _, none⟩) (by simp; omega) _

set_option maxHeartbeats 16000000 in
set_option maxRecDepth 100000 in
theorem reckon_any (a b : List Int) (Aa Ab : Option Addr) (ca cb : Nat) (w : World) (ha : Ints w w.heap.size Aa a) (hb : Ints w w.heap.size Ab b) (hca : a.length ≤ ca) (hcb : b.length ≤ cb) (hN : (a.length + 1) * (b.length + 1) ≤ 4194304) :
    Calls Tryz.prog 42 #[.slice Aa a.length ca, .slice Ab b.length cb] w fun e w' => ∃ D : TD, D.a = a ∧ D.b = b ∧ e = .returned D.tv ∧ Full w' D ∧ Below w.heap.size w w' := by
  have HA := Lib.hid ha
  have HBb := Lib.hid hb
  obtain ⟨D, hD⟩ : ∃ D : TD, D = ⟨a, b, Aa, Ab, ca, cb, w.heap.size + 3, w.heap.size, w.heap.size + 2⟩ := ⟨_, rfl⟩
  have hDa : D.a = a := by rw [hD]
  have hDb : D.b = b := by rw [hD]
  have hDAa : D.Aa = Aa := by rw [hD]
  have hDAb : D.Ab = Ab := by rw [hD]
  have hDca : D.ca = ca := by rw [hD]
  have hDcb : D.cb = cb := by rw [hD]
  have hvb : D.vb = w.heap.size + 3 := by rw [hD]
  have hbb : D.bb = w.heap.size := by rw [hD]
  have hck : D.ck = w.heap.size + 2 := by rw [hD]
  subst hDa hDb hDAa hDAb hDca hDcb
  clear hD ha hb
  have hl := @len_lt D
  obtain ⟨N, hNe⟩ : ∃ N, N = (D.a.length + 1) * (D.b.length + 1) := ⟨_, rfl⟩
  have hNi : ((D.a.length : Int) + 1) * ((D.b.length : Int) + 1) = (N : Int) := by rw [hNe]; simp
  have hDN : D.N = N := hNe.symm
  rw [← hNe] at hN
  rw [hDN] at hl
  obtain ⟨i0, hi0, hz0, hz1, hz2⟩ := info_parts info112
  have hmk : ∀ u : World, (Instr.makeSlice 107 (.int .i64 (N : Int)) (.int .i64 (N : Int))).run Tryz.prog u = .ok (.slice (some ⟨u.heap.size, 0, none⟩) N N) (u.alloc (.cells (madeCells (Value.agg #[.int .i32 0, .int .i32 0, .int .i32 0, .int .i32 0]).cells (N * 4)) 112)) := fun u => by
    have := run_make (P := Tryz.prog) u 107 112 i0 _ Tryz.underlying107 hi0 hz0 .i64 .i64 N N (by omega) (Int.le_refl _) (by rw [hz2]; omega) (by omega)
    simpa [hz1] using this
  have hA0 := fun o (h : o < N) => made_zero N o h
  have hAs := size_madeCells (Value.agg #[.int .i32 0, .int .i32 0, .int .i32 0, .int .i32 0]).cells (N * 4)
  generalize madeCells (Value.agg #[.int .i32 0, .int .i32 0, .int .i32 0, .int .i32 0]).cells (N * 4) = A0 at *
  have HA0 := Lib.hid hA0
  have w1 : IntKind.i64.wrap ((D.a.length : Int) + 1) = (D.a.length : Int) + 1 := by rw [IntKind.wrap_i64]; omega
  have w2 : IntKind.i64.wrap ((D.b.length : Int) + 1) = (D.b.length : Int) + 1 := by rw [IntKind.wrap_i64]; omega
  have w3 : IntKind.i64.wrap (N : Int) = (N : Int) := by rw [IntKind.wrap_i64]; omega
  have HNe := Lib.hid hNe
  have HDN := Lib.hid hDN
  clear hz0 hz1 hz2 hi0 hA0 hNe hDN
  go_enter Tryz.func42, Tryz.ntmps42
  have hst : (store ⟨w.heap.size + 1 + 1 + 1 + 1, 2, none⟩ (.func (.func 55) #[] #[.pointer (some ⟨w.heap.size + 1 + 1 + 1, 0, none⟩), .pointer (some ⟨w.heap.size, 0, none⟩)])).run Tryz.prog (((((w.alloc (.cells #[.slice D.Ab D.b.length D.cb] 76)).alloc (.cells #[.slice none 0 0, .slice none 0 0, .nilFunc] 90)).alloc (.cells A0 112)).alloc (.cells #[.slice (some ⟨w.heap.size + 1 + 1, 0, none⟩) N N] 107)).alloc (.cells #[.slice D.Aa D.a.length D.ca, .slice D.Ab D.b.length D.cb, .nilFunc] 90)) =
      .ok () (((((w.alloc (.cells #[.slice D.Ab D.b.length D.cb] 76)).alloc (.cells #[.slice none 0 0, .slice none 0 0, .nilFunc] 90)).alloc (.cells A0 112)).alloc (.cells #[.slice (some ⟨w.heap.size + 1 + 1, 0, none⟩) N N] 107)).alloc (.cells #[.slice D.Aa D.a.length D.ca, .slice D.Ab D.b.length D.cb, (.func (.func 55) #[] #[.pointer (some ⟨w.heap.size + 1 + 1 + 1, 0, none⟩), .pointer (some ⟨w.heap.size, 0, none⟩)])] 90)) := by
    rw [run_store Tryz.prog _ _ _ _ rfl]
    simp [go_sem]
  go_wp2_with fail
  obtain ⟨g0, g1, g2, g3, g4⟩ := new5 w (.cells #[.slice D.Ab D.b.length D.cb] 76) (.cells #[.slice none 0 0, .slice none 0 0, .nilFunc] 90) (.cells A0 112) (.cells #[.slice (some ⟨w.heap.size + 1 + 1, 0, none⟩) N N] 107)
    (.cells #[.slice D.Aa D.a.length D.ca, .slice D.Ab D.b.length D.cb, .func (.func 55) #[] #[.pointer (some ⟨w.heap.size + 1 + 1 + 1, 0, none⟩), .pointer (some ⟨w.heap.size, 0, none⟩)]] 90)
  have hfv : D.fv = .func (.func 55) #[] #[.pointer (some ⟨w.heap.size + 1 + 1 + 1, 0, none⟩), .pointer (some ⟨w.heap.size, 0, none⟩)] := by rw [TD.fv, hvb, hbb]
  have hB5 := (bel3 w (.cells #[.slice D.Ab D.b.length D.cb] 76) (.cells #[.slice none 0 0, .slice none 0 0, .nilFunc] 90) (.cells A0 112)).trans ((bel2 _ (.cells #[.slice (some ⟨w.heap.size + 1 + 1, 0, none⟩) N N] 107) (.cells #[.slice D.Aa D.a.length D.ca, .slice D.Ab D.b.length D.cb, .func (.func 55) #[] #[.pointer (some ⟨w.heap.size + 1 + 1 + 1, 0, none⟩), .pointer (some ⟨w.heap.size, 0, none⟩)]] 90)).mono (by simp; omega))
  have hRK0 : RK D w A0 _ := ⟨by rw [HDN.out]; exact hAs, by
      have := HA0.out (D.off D.a.length D.b.length) (by rw [← HDN.out]; exact off_lt (Nat.le_refl _) (Nat.le_refl _))
      rw [TD.C, Dl.C_end]; exact this, by rw [hbb]; exact g0, g1, by rw [hck]; exact g2, by rw [hvb, hck, HDN.out]; exact g3, by rw [hfv]; exact g4, hB5⟩
  have HRK0 := Lib.hid hRK0
  generalize hW : (((((w.alloc (.cells #[.slice D.Ab D.b.length D.cb] 76)).alloc (.cells #[.slice none 0 0, .slice none 0 0, .nilFunc] 90)).alloc (.cells A0 112)).alloc (.cells #[.slice (some ⟨w.heap.size + 1 + 1, 0, none⟩) N N] 107)).alloc (.cells #[.slice D.Aa D.a.length D.ca, .slice D.Ab D.b.length D.cb, .func (.func 55) #[] #[.pointer (some ⟨w.heap.size + 1 + 1 + 1, 0, none⟩), .pointer (some ⟨w.heap.size, 0, none⟩)]] 90)) = W at *
  rw [← hfv]
  have HVB := Lib.hid hvb
  have HBB := Lib.hid hbb
  have HCK := Lib.hid hck
  clear hvb hbb hck hfv
  clear hW hst hmk HA0 hAs hRK0 g0 g1 g2 g3 g4 hB5 hNi w1 w2 w3
  have EN : Hid (∀ w' : World, Calls Tryz.prog 56 #[D.tv] w' fun e w'' => e = .returned (sp D.a.length D.b.length) ∧ Below w'.heap.size w' w'') := fun w' => end_any D w' (by rw [HDN.out]; exact hN)
  have TB : Hid (∀ A wr, RK D w A wr → Tb wr D) := fun A wr h => ⟨(HA.out.below h.bel).more h.bel.size, (HBb.out.below h.bel).more h.bel.size, h.rv, h.r3, h.rc.lt, by rw [HDN.out]; exact hN, hca, hcb⟩
  go_loopg [7] (D.a.length + 2) (fun kx v wr => ∃ (ii : Int) (A : Array Value), v = .int .i64 ii ∧ -1 ≤ ii ∧ ii ≤ D.a.length ∧ (ii + 1).toNat ≤ kx ∧ Hid (RK D w A wr) ∧ Hid (∀ i' j', i' ≤ D.a.length → j' ≤ D.b.length → ii < (i' : Int) → cell4 A (D.off i' j') (D.C i' j')))
  case atStart =>
    exact ⟨D.a.length, A0, rfl, by omega, Int.le_refl _, by omega, HRK0.out, fun i' j' h1 h2 h3 => by omega⟩
  case round =>
    obtain ⟨ii, A, rfl, hi0, hi1, hkx, HR, HC⟩ := hrel
    by_cases hneg : ii < 0
    · have hge : ¬ (0 : Int) ≤ ii := by omega
      have r6 := HR.out.r6.cell
      have r4 := HR.out.r4.cell
      have r4f := HR.out.r4.thaw
      have hst2 : (store ⟨w.heap.size + 1, 2, none⟩ D.fv).run Tryz.prog ((wr.setCell ⟨w.heap.size + 1, 0, none⟩ (.slice D.Aa D.a.length D.ca)).setCell ⟨w.heap.size + 1, 1, none⟩ (.slice D.Ab D.b.length D.cb)) =
          .ok () (((wr.setCell ⟨w.heap.size + 1, 0, none⟩ (.slice D.Aa D.a.length D.ca)).setCell ⟨w.heap.size + 1, 1, none⟩ (.slice D.Ab D.b.length D.cb)).setCell ⟨w.heap.size + 1, 2, none⟩ D.fv) := by
        rw [run_store Tryz.prog _ _ _ _ rfl]
        simp [go_sem, r4, r4f]
      have n1 : D.vb ≠ w.heap.size + 1 := by have := HVB.out; omega
      have n2 : D.bb ≠ w.heap.size + 1 := by have := HBB.out; omega
      have n3 : D.ck ≠ w.heap.size + 1 := by have := HCK.out; omega
      have far : ∀ (g t : Nat) (cs : Array Value), g ≠ w.heap.size + 1 → RowB wr g t cs → RowB (((wr.setCell ⟨w.heap.size + 1, 0, none⟩ (.slice D.Aa D.a.length D.ca)).setCell ⟨w.heap.size + 1, 1, none⟩ (.slice D.Ab D.b.length D.cb)).setCell ⟨w.heap.size + 1, 2, none⟩ D.fv) g t cs := fun g t cs hg R =>
        ((R.far (p := ⟨w.heap.size + 1, 0, none⟩) hg _).far (p := ⟨w.heap.size + 1, 1, none⟩) hg _).far (p := ⟨w.heap.size + 1, 2, none⟩) hg _
      have bel' := ((HR.out.bel.setCell (p := ⟨w.heap.size + 1, 0, none⟩) (by simp) (.slice D.Aa D.a.length D.ca)).setCell (p := ⟨w.heap.size + 1, 1, none⟩) (by simp) (.slice D.Ab D.b.length D.cb)).setCell (p := ⟨w.heap.size + 1, 2, none⟩) (by simp) D.fv
      have hFull : Full (((wr.setCell ⟨w.heap.size + 1, 0, none⟩ (.slice D.Aa D.a.length D.ca)).setCell ⟨w.heap.size + 1, 1, none⟩ (.slice D.Ab D.b.length D.cb)).setCell ⟨w.heap.size + 1, 2, none⟩ D.fv) D :=
        ⟨⟨(HA.out.below bel').more bel'.size, (HBb.out.below bel').more bel'.size, far _ _ _ n1 HR.out.rv, far _ _ _ n2 HR.out.r3, (far _ _ _ n3 HR.out.rc).lt, by rw [HDN.out]; exact hN, hca, hcb⟩,
          fun i j hi hj => cell4_at (far _ _ _ n3 HR.out.rc) (HC.out i j hi hj (by omega))⟩
      have HFULL := Lib.hid hFull
      have BEL := Lib.hid bel'
      clear hFull bel' far n1 n2 n3
      go_wp2
      refine bodyPost_ret ?_ rfl ⟨D, rfl, rfl, rfl, HFULL.out, BEL.out⟩
      simp [results, Tryz.results42, go_sem, r4]
    · obtain ⟨i, rfl⟩ : ∃ i : Nat, ii = i := ⟨ii.toNat, by omega⟩
      have r3 : ∀ o, wr.cell? ⟨w.heap.size, o, none⟩ = #[Value.slice D.Ab D.b.length D.cb][o]? := fun o => by rw [← HBB.out]; exact HR.out.r3.cell o
      go_wp2_with fail
      go_loopg [8] (D.b.length + 2) (fun kx2 v wr2 => ∃ (jj : Int) (A2 : Array Value), v = .int .i64 jj ∧ -1 ≤ jj ∧ jj ≤ D.b.length ∧ (jj + 1).toNat ≤ kx2 ∧ Hid (RK D w A2 wr2) ∧ Hid (∀ i' j', i' ≤ D.a.length → j' ≤ D.b.length → ((i : Int) < i' ∨ (i' = i ∧ jj < (j' : Int))) → cell4 A2 (D.off i' j') (D.C i' j')))
      case atStart =>
        exact ⟨D.b.length, A, rfl, by omega, Int.le_refl _, by omega, HR.out, fun i' j' h1 h2 h3 => HC.out i' j' h1 h2 (by omega)⟩
      case round =>
        obtain ⟨jj, A2, rfl, hj0, hj1, hkx2, HR2, HC2⟩ := hrel
        clear HR HC r3
        by_cases hneg2 : jj < 0
        · have hge2 : ¬ (0 : Int) ≤ jj := by omega
          have HC3 : Hid (∀ i' j', i' ≤ D.a.length → j' ≤ D.b.length → (i : Int) - 1 < (i' : Int) → cell4 A2 (D.off i' j') (D.C i' j')) := fun i' j' h1 h2 h3 => HC2.out i' j' h1 h2 (by omega)
          clear HC2
          go_wp2_with fail
          go_roundg i
          case measure => omega
          case rel => exact ⟨(i : Int) - 1, A2, by go_num, by omega, by omega, by omega, HR2.out, HC3.out⟩
        · obtain ⟨j, rfl⟩ : ∃ j : Nat, jj = j := ⟨jj.toNat, by omega⟩
          have hin : i ≤ D.a.length := by omega
          have hjm : j ≤ D.b.length := by omega
          have RA := Lib.hid (HR2.out.below (bel1 wr (.cells #[.int .i64 i, .int .i64 j] 55)))
          have R9 := Lib.hid (RowB.new wr 55 #[.int .i64 i, .int .i64 j])
          have hwb := HR2.out.bel.size
          have hs6 := HR2.out.r6.lt
          go_wp2_with fail
          generalize hV : wr.alloc (.cells #[.int .i64 i, .int .i64 j] 55) = V at *
          have hVs : V.heap.size = wr.heap.size + 1 := by rw [← hV]; simp
          clear hV
          have q55 := fun u => neq55 i j D.a.length D.b.length u
          have z0 := fun d os => cell_regrown (RA.out.r6.cell 0) d os
          have z1 := fun d os => cell_regrown (RA.out.r6.cell 1) d os
          have z2 := fun d os => cell_regrown (RA.out.r6.cell 2) d os
          have z3 := fun d os => cell_regrown (R9.out.cell 0) d os
          have z4 := fun d os => cell_regrown (R9.out.cell 1) d os
          by_cases he : i = D.a.length ∧ j = D.b.length
          · have hq : (!(decide ((i : Int) = (D.a.length : Int)) && decide ((j : Int) = (D.b.length : Int)))) = false := by simp; omega
            rw [hq] at q55
            refine wp_region_quiet_below (by kernel_rfl) (by kernel_rfl) ?_
            repeat (go_big_quiet_step (first
              | (go_at_call 56; exact Calls.regrown_of (EN.out _))))
            refine wpQuiet_nil ?_
            intro _ hw'
            obtain ⟨⟨dq, osq⟩, hw''⟩ := hw'
            subst hw''
            have RX := Lib.hid (RA.out.below (below_regrown V dq osq))
            have X9 := Lib.hid (R9.out.below (below_regrown V dq osq) R9.out.lt)
            have hXs : V.heap.size ≤ (Go.Sort.grow (redrawn V dq) osq).heap.size := (below_regrown V dq osq).size
            generalize Go.Sort.grow (redrawn V dq) osq = WX at *
            clear z0 z1 z2 z3 z4 q55 hq
            have HC3 : Hid (∀ i' j', i' ≤ D.a.length → j' ≤ D.b.length → ((i : Int) < i' ∨ (i' = i ∧ (j : Int) - 1 < (j' : Int))) → cell4 A2 (D.off i' j') (D.C i' j')) := fun i' j' h1 h2 h3 => by
              by_cases hh : i' = i ∧ j' = j
              · obtain ⟨rfl, rfl⟩ := hh
                rw [he.1, he.2]; exact RX.out.last
              · exact HC2.out i' j' h1 h2 (by omega)
            clear HC2 RA R9 he
            go_wp2_with fail
            go_roundg j
            case measure => omega
            case rel => exact ⟨(j : Int) - 1, A2, by go_num, by omega, by omega, by omega, RX.out, HC3.out⟩
          · have hq : (!(decide ((i : Int) = (D.a.length : Int)) && decide ((j : Int) = (D.b.length : Int)))) = true := by simp; omega
            rw [hq] at q55
            refine wp_region_quiet_below (by kernel_rfl) (by kernel_rfl) ?_
            repeat (go_big_quiet_step (first
              | (go_at_call 56; exact Calls.regrown_of (EN.out _))))
            refine wpQuiet_nil ?_
            intro _ hw'
            obtain ⟨⟨dq, osq⟩, hw''⟩ := hw'
            subst hw''
            have RX := Lib.hid (RA.out.below (below_regrown V dq osq))
            have X9 := Lib.hid (R9.out.below (below_regrown V dq osq) R9.out.lt)
            have hXs : V.heap.size ≤ (Go.Sort.grow (redrawn V dq) osq).heap.size := (below_regrown V dq osq).size
            generalize Go.Sort.grow (redrawn V dq) osq = WX at *
            clear z0 z1 z2 z3 z4 q55 hq
            have n69 : w.heap.size + 4 ≠ D.ck := by have := HCK.out; omega
            have n9 : wr.heap.size ≠ D.ck := by have := HR2.out.rc.lt; omega
            have hoff : D.off i j * 4 + 4 ≤ A2.size := by have := off_lt hin hjm; rw [RX.out.size]; omega
            have hcur : ∀ k, k < 4 → WX.drew.cell? ⟨D.ck, D.off i j * 4 + k, none⟩ = some (cur WX.drew ⟨D.ck, D.off i j * 4 + k, none⟩) := fun k hk => by
              have hc : WX.drew.cell? ⟨D.ck, D.off i j * 4 + k, none⟩ = A2[D.off i j * 4 + k]? := RX.out.rc.cell _
              rw [Array.getElem?_eq_getElem (by omega)] at hc
              exact cur_some hc
            have HS0 : Held8 D (w.heap.size + 4) wr.heap.size i j (D.off i j) WX.drew := ⟨RX.out.r6.cell, X9.out.cell, RX.out.rc.thaw, hcur 0 (by omega), hcur 1 (by omega), hcur 2 (by omega), hcur 3 (by omega), RX.out.r6.lt, X9.out.lt, RX.out.rc.lt⟩
            have HB0 : Below WX.heap.size WX WX.drew := (Below.refl _ _).drew
            have AT : Hid (∀ w' : World, Below WX.heap.size WX w' → Calls Tryz.prog 55 #[.agg #[.int .i64 i, .int .i64 j], .pointer (some ⟨D.vb, 0, none⟩), .pointer (some ⟨D.bb, 0, none⟩)] w' fun e w'' => e = .returned (.pointer (some ⟨D.ck, D.off i j * 4, none⟩)) ∧ Below w'.heap.size w' w'') := fun w' hb =>
              at_any D i j w' (TB.out _ _ (RX.out.below hb)) hin hjm
            have RC : Hid (∀ w' : World, Below WX.heap.size WX w' → Calls Tryz.prog 57 #[D.tv, sp i j] w' fun e w'' => e = .returned (cev (D.C i j)) ∧ Below w'.heap.size w' w'') := fun w' hb => by
              have hT := TB.out _ _ (RX.out.below hb)
              have hR := (RX.out.below hb).rc
              have := reckonAt_any D i j D.C w' hT hin hjm he (fun h => cell4_at hR (HC2.out _ _ (by omega) hjm (by omega))) (fun h => cell4_at hR (HC2.out _ _ hin (by omega) (by omega))) (fun h1 h2 => cell4_at hR (HC2.out _ _ (by omega) (by omega) (by omega)))
              rwa [reckv_C D hin hjm he] at this
            have HC : Hid (∀ w' w2 : World, Held8 D (w.heap.size + 4) wr.heap.size i j (D.off i j) w' → Below w'.heap.size w' w2 → Held8 D (w.heap.size + 4) wr.heap.size i j (D.off i j) w2) := fun w' w2 h hb => h.call hb
            have HP : Hid (∀ (w' : World) (a b c d : Value), Held8 D (w.heap.size + 4) wr.heap.size i j (D.off i j) w' → Held8 D (w.heap.size + 4) wr.heap.size i j (D.off i j) ((((w'.setCell ⟨D.ck, D.off i j * 4, none⟩ a).setCell ⟨D.ck, D.off i j * 4 + 1, none⟩ b).setCell ⟨D.ck, D.off i j * 4 + 2, none⟩ c).setCell ⟨D.ck, D.off i j * 4 + 3, none⟩ d)) := fun w' a b c d h => h.put n69 n9 a b c d
            have HC3 : Hid (∀ i' j', i' ≤ D.a.length → j' ≤ D.b.length → ((i : Int) < i' ∨ (i' = i ∧ (j : Int) - 1 < (j' : Int))) → cell4 (put4 A2 (D.off i j) (D.C i j)) (D.off i' j') (D.C i' j')) := fun i' j' h1 h2 h3 => by
              by_cases hh : i' = i ∧ j' = j
              · obtain ⟨rfl, rfl⟩ := hh
                exact put4_same _ hoff
              · exact put4_other (HC2.out i' j' h1 h2 (by omega)) (fun e => hh ⟨(off_inj hjm h2 e).1.symm, (off_inj hjm h2 e).2.symm⟩)
            have RP : Hid (∀ w' : World, Below WX.heap.size WX w' → RK D w (put4 A2 (D.off i j) (D.C i j)) ((((w'.setCell ⟨D.ck, D.off i j * 4, none⟩ (.int .i32 (D.C i j).1.k)).setCell ⟨D.ck, D.off i j * 4 + 1, none⟩ (.int .i32 (D.C i j).1.g)).setCell ⟨D.ck, D.off i j * 4 + 2, none⟩ (.int .i32 (D.C i j).2.k)).setCell ⟨D.ck, D.off i j * 4 + 3, none⟩ (.int .i32 (D.C i j).2.g))) := fun w' hb =>
              (RX.out.below hb).put HCK.out HVB.out HBB.out hjm he _
            clear HC2 RA R9 hcur
            go_wp2_with fail
            go_region_held3 (fun w' => (∀ o, w'.cell? ⟨w.heap.size + 4, o, none⟩ = #[.slice D.Aa D.a.length D.ca, .slice D.Ab D.b.length D.cb, D.fv][o]?) ∧ (∀ o, w'.cell? ⟨wr.heap.size, o, none⟩ = #[Value.int .i64 i, .int .i64 j][o]?) ∧ (∀ o, w'.frozen? ⟨D.ck, o, none⟩ = false) ∧
                w'.cell? ⟨D.ck, D.off i j * 4, none⟩ = some (cur w' ⟨D.ck, D.off i j * 4, none⟩) ∧ w'.cell? ⟨D.ck, D.off i j * 4 + 1, none⟩ = some (cur w' ⟨D.ck, D.off i j * 4 + 1, none⟩) ∧ w'.cell? ⟨D.ck, D.off i j * 4 + 2, none⟩ = some (cur w' ⟨D.ck, D.off i j * 4 + 2, none⟩) ∧ w'.cell? ⟨D.ck, D.off i j * 4 + 3, none⟩ = some (cur w' ⟨D.ck, D.off i j * 4 + 3, none⟩) ∧
                w.heap.size + 4 < w'.heap.size ∧ wr.heap.size < w'.heap.size ∧ D.ck < w'.heap.size)
              (first
                | (with_reducible exact HS0)
                | (with_reducible exact HC.out _ _ (by assumption) hbn)
                | (with_reducible exact HP.out _ _ _ _ _ (by assumption)))
              (first
                | (go_at_call 55; refine (AT.out _ (by first | exact hbX | exact HB0)).mono ?_; rintro e w' ⟨rfl, hbn⟩; have hbX := step_bel (by first | exact hbX | exact HB0) hbn)
                | (go_at_call 57; refine (RC.out _ (by first | exact hbX | exact HB0)).mono ?_; rintro e w' ⟨rfl, hbn⟩; have hbX := step_bel (by first | exact hbX | exact HB0) hbn))
            have RF := Lib.hid (RP.out _ hbX)
            clear RP HP HC RC AT HS0 HB0 hbX
            go_wp2_with fail
            go_roundg j
            case measure => omega
            case rel => exact ⟨(j : Int) - 1, _, by go_num, by omega, by omega, by omega, RF.out, HC3.out⟩
end Go.Proofs.YthbmnnnlkgbieaaGreatDoor
/- The way that the table tells keeps as many units as can be. -/
namespace Go.Proofs.YthbmnnnlkgbieaaGreatDoor
open Go.RowKit

theorem same_at (D : TD) : ∀ i j, i < D.a.length → j < D.b.length → (D.same i j = true ↔ Dl.At D.a D.b i j) := fun i j hi hj => by
  unfold TD.same Dl.At
  rw [decide_eq_true_iff, List.getD_eq_getElem?_getD, List.getD_eq_getElem?_getD, List.getElem?_eq_getElem hi, List.getElem?_eq_getElem hj]
  simp only [Option.getD_some]
  constructor
  · intro h; exact ⟨_, rfl, by rw [h]⟩
  · rintro ⟨x, h1, h2⟩
    injection h1 with h1
    injection h2 with h2
    omega
theorem w32_in (x : Int) (h0 : 0 ≤ x) (h1 : x ≤ 4194304) : w32 x = x := IntWalk.wrap32_in x (by omega)

theorem Cl.good {D : TD} (hN : D.N ≤ 4194304) {i j a b : Nat} (h : Cl D i j a b) (hi : i ≤ D.a.length) (hj : j ≤ D.b.length) (he : ¬ (i = D.a.length ∧ j = D.b.length))
    (hs : D.isS i j = false ∨ D.stops i j = false) : Dl.L D.a D.b i j = Dl.L D.a D.b a b := by
  have hl := @len_lt D
  have hw : ∀ x : Int, 0 ≤ x → x ≤ (D.a.length : Int) → w32 x = x := fun x h0 h1 => w32_in x h0 (by omega)
  have step : ∀ {i j : Nat}, i ≤ D.a.length → j ≤ D.b.length → ¬ (i = D.a.length ∧ j = D.b.length) → (D.isS i j = false ∨ D.stops i j = false) → Dl.L D.a D.b (D.st i j).1 (D.st i j).2 = Dl.L D.a D.b i j := fun {i j} hi hj he hs => by
    unfold TD.st
    cases ho : D.toOld i j
    · simp only [Bool.false_eq_true, if_false]
      exact (Dl.step_new w32 D.same D.a D.b (same_at D) hw hi hj he hs ho).2
    · simp only [if_true]
      exact (Dl.step_old w32 D.same D.a D.b (same_at D) hw hi hj he hs ho).2
  induction h with
  | stop i j _ => exact (step hi hj he hs).symm
  | on i j a b hns _ ih =>
    obtain ⟨h1, h2, h3⟩ := st_or D hi hj he
    have hn : ¬ ((D.st i j).1 = D.a.length ∧ (D.st i j).2 = D.b.length) := fun ⟨e1, e2⟩ => by
      unfold TD.stops Dl.stops at hns
      rw [e1, e2] at hns
      simp at hns
    rw [← ih h1 h2 hn (.inr hns)]
    exact (step hi hj he hs).symm

theorem Tr.good {D : TD} (hN : D.N ≤ 4194304) {i j : Nat} {G : List Dl.Gap} (h : Tr D i j G) : Dl.Good D.a D.b i j G := by
  have hA : ∀ i j, D.isS i j = true ↔ Dl.At D.a D.b i j := fun i j => Dl.isS_at D.same D.a D.b (same_at D) i j
  induction h with
  | done => exact .done
  | keep i j G hs _ ih => exact .keep i j G ((hA i j).1 hs) ih
  | gap i j a b G hs hi hj he hc _ ih =>
    obtain ⟨g1, g2, g3, g4, g5, g6⟩ := hc.le hi hj he
    refine .gap i j a b G g4 g5 g1 g2 (by omega) (hc.good hN hi hj he (.inl hs)) ?_ ih
    unfold TD.stops Dl.stops at g6
    simp only [Bool.or_eq_true, Bool.and_eq_true, decide_eq_true_eq] at g6
    rcases g6 with h | h
    · exact .inl h
    · exact .inr ((hA a b).1 h.1)
theorem Tr.end_ {D : TD} {G : List Dl.Gap} (h : Tr D D.a.length D.b.length G) : G = [] := by
  generalize hi : D.a.length = i at h
  generalize hj : D.b.length = j at h
  cases h with
  | done => rfl
  | keep _ _ _ hs _ =>
    unfold TD.isS Dl.isS at hs
    simp [hi] at hs
  | gap _ _ _ _ _ _ _ _ he _ _ => exact absurd ⟨hi.symm, hj.symm⟩ he
theorem Tr.sep {D : TD} {i j : Nat} {G : List Dl.Gap} (h : Tr D i j G) :
    Dl.Sep G ∧ ∀ g, G.head? = some g → (D.isS i j = true → i < g.fo ∧ j < g.fn) ∧ i ≤ g.fo ∧ j ≤ g.fn := by
  induction h with
  | done => exact ⟨trivial, by simp⟩
  | keep i j G _ _ ih =>
    refine ⟨ih.1, fun g hg => ?_⟩
    have := ih.2 g hg
    exact ⟨fun _ => by omega, by omega, by omega⟩
  | gap i j a b G hs hi hj he hc hT ih =>
    obtain ⟨g1, g2, g3, g4, g5, g6⟩ := hc.le hi hj he
    refine ⟨?_, fun g hg => ?_⟩
    · cases G with
      | nil => trivial
      | cons x r =>
        refine ⟨?_, ih.1⟩
        have h2 := ih.2 x rfl
        unfold TD.stops Dl.stops at g6
        simp only [Bool.or_eq_true, Bool.and_eq_true, decide_eq_true_eq] at g6
        rcases g6 with ⟨e1, e2⟩ | h
        · rw [e1, e2] at hT
          exact absurd hT.end_ (by simp)
        · exact h2.1 h.1
    · simp at hg
      subst hg
      exact ⟨(fun h => by rw [hs] at h; cases h), Nat.le_refl _, Nat.le_refl _⟩
end Go.Proofs.YthbmnnnlkgbieaaGreatDoor
