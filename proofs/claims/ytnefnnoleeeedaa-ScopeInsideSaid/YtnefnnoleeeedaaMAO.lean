/- Contracts: what is wrong is noted. -/
import Derived.Test.YtnefnnoleeeedaaMAN
import Derived.WalkArith
namespace Go.Proofs.Ytnefnnoleeeedaa
open Go.RowKit Go.Op
namespace Sc
open Vm

/-- The walker, wherever its rows lie. -/
def WS (X : Wc) (w : World) (K : Nat → Prop) (hv : Option Nat) (s : St) (N : Nat) : Prop := ∃ v1 v2 v3 v4 nm nh, WSr X w K hv s N v1 v2 v3 v4 nm nh
/-- How a step ends: nothing is answered; the walker knows t. -/
def Ans (X : Wc) (w : World) (K : Nat → Prop) (hv : Option Nat) (t : St) (N : Nat) (e : Ending) (w' : World) : Prop := e = .returned (.tuple #[]) ∧ ∃ K', WS X w' K' hv t N ∧ Gx K w K' w'
set_option maxHeartbeats 8000000 in
set_option maxRecDepth 100000 in
theorem wrong_any {X : Wc} {w : World} {K : Nat → Prop} {hv : Option Nat} {s : St} {N nm nh : Nat} {v1 v2 v3 v4 : Value} (h : WSr X w K hv s N v1 v2 v3 v4 nm nh) (n : Hi) (A : Option Addr) (k c : Nat) (er : Int) (hN : N ≤ 1000000000) :
    Calls Try.prog 62 #[X.p, hvv n A k c, .int .i64 er] w (Ans X w K hv (s.wrong n.at_ er) (N + 1)) := by
  have h1 := h.alloc (.cells (hcc n A k c) 25)
  have RB := RowB.new w 25 (hcc n A k c)
  have H1 := Lib.hid h1
  have G1 := Lib.hid (Gx.alloc K w (.cells (hcc n A k c) 25))
  have HR := Lib.hid RB
  obtain ⟨b, mb, B⟩ := X
  simp only [hcc] at *
  clear h h1 RB
  go_enter Try.func62, Try.ntmps62
  go_wp2_with fail
  obtain ⟨W1, hW1⟩ : ∃ W1, W1 = w.alloc (.cells (#[.int .i64 n.kind, .int .i64 n.fro, .int .i64 n.til, .string n.word, .int .i64 n.at_, .slice A k c] : Array Value) 25) := ⟨_, rfl⟩
  rw [← hW1] at H1 G1 HR ⊢
  clear hW1
  obtain ⟨bx, hbx⟩ : ∃ bx, bx = w.heap.size := ⟨_, rfl⟩
  rw [← hbx] at HR ⊢
  clear hbx
  refine wp_region_G (S := SG (fun _ => True) 15 (fun w' => RowB w' b 72 (wcc v1 v2 v3 v4 mb hv s.lam s.item) ∧ RowB w' bx 25 #[.int .i64 n.kind, .int .i64 n.fro, .int .i64 n.til, .string n.word, .int .i64 n.at_, .slice A k c]) 99 (fun _ => True)) (by kernel_rfl) ⟨trivial, fun _ => ⟨H1.out.row, HR.out⟩, fun _ => trivial⟩ (fun hS => ?_)
  obtain ⟨WD, hWD⟩ : ∃ WD, WD = W1.drew := ⟨_, rfl⟩
  have H1 := Lib.hid (H1.out.drew)
  have G1 := Lib.hid (G1.out.trans (Gx.drew _ W1))
  replace HR := Lib.hid (show RowB W1.drew _ _ _ from HR.out)
  rw [← hWD] at hS H1 G1 HR ⊢
  clear hWD
  refine wpG_take1 (i := 0) (v := ?v1) rfl (by kernel_rfl) (by kernel_rfl) (by kernel_rfl) (by decide) (by decide) (by kernel_rfl) (by kernel_rfl) (fun _ _ _ h => h) hS (Or.inl ⟨by rfl, ?hy1⟩) ?rest1
  case hy1 => (intro w' hw; obtain ⟨_, q1, q2⟩ := hw; have u0 := q1.cell; have u1 := q2.cell; go_simp; try with_reducible rfl)
  replace hS := SG.set (i := 0) (by decide) (by decide) hS
  try simp only [Act.put, List.setIfInBounds_toArray, List.set_cons_zero, List.set_cons_succ]
  refine wpG_take1 (i := 1) (v := ?v2) rfl (by kernel_rfl) (by kernel_rfl) (by kernel_rfl) (by decide) (by decide) (by kernel_rfl) (by kernel_rfl) (fun _ _ _ h => h) hS (Or.inl ⟨by rfl, ?hy2⟩) ?rest2
  case hy2 => (intro w' hw; obtain ⟨_, q1, q2⟩ := hw; have u0 := q1.cell; have u1 := q2.cell; go_simp; try with_reducible rfl)
  replace hS := SG.set (i := 1) (by decide) (by decide) hS
  try simp only [Act.put, List.setIfInBounds_toArray, List.set_cons_zero, List.set_cons_succ]
  refine wpG_take1 (i := 2) (v := ?v3) rfl (by kernel_rfl) (by kernel_rfl) (by kernel_rfl) (by decide) (by decide) (by kernel_rfl) (by kernel_rfl) (fun _ _ _ h => h) hS (Or.inl ⟨by rfl, ?hy3⟩) ?rest3
  case hy3 => (intro w' hw; obtain ⟨_, q1, q2⟩ := hw; have u0 := q1.cell; have u1 := q2.cell; go_simp; try with_reducible rfl)
  replace hS := SG.set (i := 2) (by decide) (by decide) hS
  try simp only [Act.put, List.setIfInBounds_toArray, List.set_cons_zero, List.set_cons_succ]
  refine wpG_take1 (i := 3) (v := ?v4) rfl (by kernel_rfl) (by kernel_rfl) (by kernel_rfl) (by decide) (by decide) (by kernel_rfl) (by kernel_rfl) (fun _ _ _ h => h) hS (Or.inl ⟨by rfl, ?hy4⟩) ?rest4
  case hy4 => (intro w' hw; obtain ⟨_, q1, q2⟩ := hw; have u0 := q1.cell; have u1 := q2.cell; go_simp; try with_reducible rfl)
  replace hS := SG.set (i := 3) (by decide) (by decide) hS
  try simp only [Act.put, List.setIfInBounds_toArray, List.set_cons_zero, List.set_cons_succ]
  refine wpG_take1 (i := 4) (v := ?v5) rfl (by kernel_rfl) (by kernel_rfl) (by kernel_rfl) (by decide) (by decide) (by kernel_rfl) (by kernel_rfl) (fun _ _ _ h => h) hS (Or.inl ⟨by rfl, ?hy5⟩) ?rest5
  case hy5 => (intro w' hw; obtain ⟨_, q1, q2⟩ := hw; have u0 := q1.cell; have u1 := q2.cell; go_simp; try with_reducible rfl)
  replace hS := SG.set (i := 4) (by decide) (by decide) hS
  try simp only [Act.put, List.setIfInBounds_toArray, List.set_cons_zero, List.set_cons_succ]
  refine wpG_take1 (i := 5) (v := ?v6) rfl (by kernel_rfl) (by kernel_rfl) (by kernel_rfl) (by decide) (by decide) (by kernel_rfl) (by kernel_rfl) (fun _ _ _ h => h) hS (Or.inl ⟨by rfl, ?hy6⟩) ?rest6
  case hy6 => (intro w' hw; obtain ⟨_, q1, q2⟩ := hw; have u0 := q1.cell; have u1 := q2.cell; go_simp; try with_reducible rfl)
  replace hS := SG.set (i := 5) (by decide) (by decide) hS
  try simp only [Act.put, List.setIfInBounds_toArray, List.set_cons_zero, List.set_cons_succ]
  refine wpG_take1 (i := 6) (v := ?v7) rfl (by kernel_rfl) (by kernel_rfl) (by kernel_rfl) (by decide) (by decide) (by kernel_rfl) (by kernel_rfl) (fun _ _ _ h => h) hS (Or.inl ⟨by rfl, ?hy7⟩) ?rest7
  case hy7 => (intro w' hw; obtain ⟨_, q1, q2⟩ := hw; have u0 := q1.cell; have u1 := q2.cell; go_simp; try with_reducible rfl)
  replace hS := SG.set (i := 6) (by decide) (by decide) hS
  try simp only [Act.put, List.setIfInBounds_toArray, List.set_cons_zero, List.set_cons_succ]
  refine wpG_take1 (i := 7) (v := ?v8) rfl (by kernel_rfl) (by kernel_rfl) (by kernel_rfl) (by decide) (by decide) (by kernel_rfl) (by kernel_rfl) (fun _ _ _ h => h) hS (Or.inl ⟨by rfl, ?hy8⟩) ?rest8
  case hy8 => (intro w' hw; obtain ⟨_, q1, q2⟩ := hw; have u0 := q1.cell; have u1 := q2.cell; go_simp; try with_reducible rfl)
  replace hS := SG.set (i := 7) (by decide) (by decide) hS
  try simp only [Act.put, List.setIfInBounds_toArray, List.set_cons_zero, List.set_cons_succ]
  refine wpG_take1 (i := 8) (v := ?v9) rfl (by kernel_rfl) (by kernel_rfl) (by kernel_rfl) (by decide) (by decide) (by kernel_rfl) (by kernel_rfl) (fun _ _ _ h => h) hS (Or.inl ⟨by rfl, ?hy9⟩) ?rest9
  case hy9 => (intro w' hw; obtain ⟨_, q1, q2⟩ := hw; have u0 := q1.cell; have u1 := q2.cell; go_simp; try with_reducible rfl)
  replace hS := SG.set (i := 8) (by decide) (by decide) hS
  try simp only [Act.put, List.setIfInBounds_toArray, List.set_cons_zero, List.set_cons_succ]
  refine wpG_take1 (i := 9) (v := ?v10) rfl (by kernel_rfl) (by kernel_rfl) (by kernel_rfl) (by decide) (by decide) (by kernel_rfl) (by kernel_rfl) (fun _ _ _ h => h) hS (Or.inl ⟨by rfl, ?hy10⟩) ?rest10
  case hy10 => (intro w' hw; obtain ⟨_, q1, q2⟩ := hw; have u0 := q1.cell; have u1 := q2.cell; go_simp; try with_reducible rfl)
  replace hS := SG.set (i := 9) (by decide) (by decide) hS
  try simp only [Act.put, List.setIfInBounds_toArray, List.set_cons_zero, List.set_cons_succ]
  clear hS
  have H2 := Lib.hid (H1.out.alloc (.cells #[.int .i64 n.at_, .int .i64 er] 50))
  have G2 := Lib.hid (G1.out.trans (Gx.alloc _ WD (.cells #[.int .i64 n.at_, .int .i64 er] 50)))
  have RN := Lib.hid (RowB.new WD 50 #[.int .i64 n.at_, .int .i64 er])
  have HR2 := Lib.hid (HR.out.alloc (.cells #[.int .i64 n.at_, .int .i64 er] 50))
  refine wpG_ready (rs := [10]) (by kernel_rfl) (by simp) ?_
  refine RG.cons rfl rfl (fun K' hK => ?_) RG.nil
  go_simp
  refine hK.out _ _ ⟨trivial, fun _ => ⟨H2.out.row, HR2.out⟩, fun _ => trivial⟩ (fun hS => ?_)
  clear hK K'
  try simp only [Act.put, List.setIfInBounds_toArray, List.set_cons_zero, List.set_cons_succ]
  clear hS
  obtain ⟨W2, hW2⟩ : ∃ W2, W2 = WD.alloc (.cells #[.int .i64 n.at_, .int .i64 er] 50) := ⟨_, rfl⟩
  rw [← hW2] at H2 G2 RN HR2 ⊢
  obtain ⟨v', W3, hr, ho, hg, hl⟩ := app_at (w := W2) (t := 32) (e := 50) (size := 2) (bytes := 16) (z := .agg #[.int .i64 0, .int .i64 0]) Try.underlying32 (by kernel_rfl) rfl (by decide) (by decide) B v3 _ _ H2.out.o3 _ _ RN.out rfl (by intro u hu; simp at hu; rcases hu with rfl | rfl <;> rfl) (by have := H2.out.sum; omega) (by have := (H2.out.lt _ H2.out.kb); simp only at this; omega) 32
  have r3 : RowB W3 b 72 (wcc v1 v2 v3 v4 mb hv s.lam s.item) := (hg.block _ H2.out.row.lt (fun e => own_ne_row H2.out.o3 H2.out.row (by decide) e.symm)).trans H2.out.row
  have b3 : RowB W3 bx 25 #[.int .i64 n.kind, .int .i64 n.fro, .int .i64 n.til, .string n.word, .int .i64 n.at_, .slice A k c] := (hg.block _ HR2.out.lt (fun e => own_ne_row H2.out.o3 HR2.out (by decide) e.symm)).trans HR2.out
  have FIN := Lib.hid (H2.out.app3 (x := (n.at_, er)) ho hg hl)
  obtain ⟨A', c', rfl, _⟩ := own_shape ho
  have R3 := Lib.hid r3
  have B3 := Lib.hid b3
  clear ho hg hl r3 b3 hW2 H2 HR2 RN
  refine wpG_ready (rs := [11]) (by kernel_rfl) (by simp) ?_
  refine RG.cons rfl rfl (fun K' hK => ?_) RG.nil
  refine wp_append_run (.tmp 11) (.tmp 16) 32 (by rfl) (by rfl) (by rfl) hr ?_
  refine hK.out _ _ ⟨trivial, fun _ => ⟨R3.out, B3.out⟩, fun _ => trivial⟩ (fun hS => ?_)
  clear hK K'
  try simp only [Act.put, List.setIfInBounds_toArray, List.set_cons_zero, List.set_cons_succ]
  clear hr
  refine wpG_take0 (i := 12) (v := ?v11) rfl (by kernel_rfl) (by kernel_rfl) (by kernel_rfl) (by decide) (by decide) (fun _ _ _ h => h) hS (Or.inl ⟨by rfl, ?hy11⟩) ?rest11
  case hy11 => (intro w' hw; go_simp; try with_reducible rfl)
  replace hS := SG.set (i := 12) (by decide) (by decide) hS
  try simp only [Act.put, List.setIfInBounds_toArray, List.set_cons_zero, List.set_cons_succ]
  refine wpG_take0 (i := 13) (v := ?v12) rfl (by kernel_rfl) (by kernel_rfl) (by kernel_rfl) (by decide) (by decide) (fun _ _ _ h => h) hS (Or.inl ⟨by rfl, ?hy12⟩) ?rest12
  case hy12 => (intro w' hw; go_simp; try with_reducible rfl)
  replace hS := SG.set (i := 13) (by decide) (by decide) hS
  try simp only [Act.put, List.setIfInBounds_toArray, List.set_cons_zero, List.set_cons_succ]
  refine wpG_take0 (i := 14) (v := ?v13) rfl (by kernel_rfl) (by kernel_rfl) (by kernel_rfl) (by decide) (by decide) (fun _ _ _ h => h) hS (Or.inl ⟨by rfl, ?hy13⟩) ?rest13
  case hy13 => (intro w' hw; go_simp; try with_reducible rfl)
  replace hS := SG.set (i := 14) (by decide) (by decide) hS
  try simp only [Act.put, List.setIfInBounds_toArray, List.set_cons_zero, List.set_cons_succ]
  clear hS
  have yc := R3.out.cell
  have yt := R3.out.thaw
  refine wpG_ready (rs := [15]) (by kernel_rfl) (by simp) ?_
  refine RG.cons rfl rfl (fun K' hK => ?_) RG.nil
  go_simp
  refine hK.out _ _ ⟨trivial, fun h => absurd (h : true = false) (by decide), fun _ => trivial⟩ (fun hS => ?_)
  clear hK K'
  try simp only [Act.put, List.setIfInBounds_toArray, List.set_cons_zero, List.set_cons_succ]
  clear hS yc yt R3
  refine wpG_done (by kernel_rfl) ?_ _
  go_end0
  exact ⟨rfl, _, ⟨_, _, _, _, _, _, FIN.out.1⟩, G2.out.trans FIN.out.2⟩
end Sc
end Go.Proofs.Ytnefnnoleeeedaa
/- Contracts: helpers of bindings. -/
namespace Go.Proofs.Ytnefnnoleeeedaa
open Go.RowKit Go.Op
namespace Sc
open Vm

theorem wfI {v : Int} (h1 : -9223372036854775808 ≤ v) (h2 : v ≤ 9223372036854775807) : (Lit.int .i64 v).wf = true := by
  exact WalkArith.wf_i64 ⟨h1, h2⟩
theorem MM.put {w1 : World} {b n : Nat} {f : ByteArray → Int} {g : ByteArray → Option Int} (hg : ∀ x, (g x).getD (-1) = f x) {x : ByteArray} {v : Int} (h : MF w1 b (n + 1) (up g x (some v))) : MM w1 b (n + 1) (up f x v) := by
  refine ⟨_, h, fun y => ?_⟩
  unfold up
  split
  · rfl
  · exact hg y
theorem bind_eq (a : Int) (word : ByteArray) (kind : Int) (s s0 s1 s2 s3 : St) (h0 : s0 = bind0 a word s) (h1 : s1 = { s0 with means := up s0.means word s0.bs.length }) (h2 : s2 = { s1 with within := s1.within ++ [s1.lam] }) (h3 : s3 = { s2 with bs := s2.bs ++ [⟨a, kind, word, s2.item⟩] }) : s3 = bind a word kind s := by
  subst h3 h2 h1 h0
  unfold bind bind0
  split <;> rfl
end Sc
end Go.Proofs.Ytnefnnoleeeedaa
