import Derived.Test.YtiabkkdeonepgaaGreatDoorXH
import Derived.Test.YtiabkkdeonepgaaGreatDoorXI
set_option maxRecDepth 100000
namespace Go.Proofs.YtiabkkdeonepgaaGreatDoor
open Go.RowKit
namespace Pg
open Ps
inductive Out where
  | ok (h : Hd) (k : Fo)
  | bad (e a : Nat)
def wholeM (l : List Tok) (r : Fo × Sd) : Out :=
  if 0 ≤ r.2.2 then .bad 24 r.2.2.toNat
  else if r.2.1 + 1 < l.length then .bad 24 r.2.1
  else match r.1 with
    | .nil => .bad 0 0
    | .cons h k _ => if 60 < 1 + k.deep then .bad 25 0 else .ok h k
def WholeQ (X : Cx) (w : World) (o : Out) (e : Ending) (w' : World) : Prop :=
  Fr X.rb w.heap.size w w' ∧ match o with
    | .ok h k => ∃ A cap, e = .returned (.tuple #[nvv h A k.len cap, .int .i64 0, .int .i64 0]) ∧ KV w' (fun g => w.heap.size ≤ g) k A cap
    | .bad er a => e = .returned (.tuple #[nv0, .int .i64 er, .int .i64 a]) ∧ a < X.l.length
set_option maxHeartbeats 8000000 in
theorem whole_q (X : Cx) (M : Sd → Res) (F : Nat) (eF : ∀ w, (callFunc F #[X.p]).run Tryz.prog w = .ok (.enter F #[X.p]) w) (I : RuleQ X True M F) (w : World) (r : Fo × Sd) (hM : M (0, -1) = some r) (hb : r.2.2 < 0 → r.1.deep ≤ 1000000000000 ∧ r.1.wide ≤ 1000001) (hS : PSt X w (0, -1)) :
    Calls Tryz.prog 43 #[X.p, .func (.func F) #[X.p] #[]] w (WholeQ X w (wholeM X.l r)) := by
  have L0 := Lib.hid ((LS.start hS).alloc w.heap.size rfl 25 zcc)
  have hrb := hS.lt
  have hl := hS.len
  have C1 : Hid (∀ w', PSt X w' (0, -1) → Calls Tryz.prog F #[X.p] w' (NodeQ X w' r)) := fun w' h => I (0, -1) w' r (fun _ => ⟨trivial, hM⟩) (fun h => absurd h (by decide)) h
  have HBD := Lib.hid hb
  clear hb hM hS I
  obtain ⟨rf, t⟩ := r
  dsimp only at *
  go_enter Tryz.func43, Tryz.ntmps43
  go_wp2_with fail
  refine (C1.out _ L0.out.st).mono ?_
  rintro e w1 ⟨h1, k1, A1, c1, rfl, hK1, hS1, hF1, hN1⟩
  have L1 := Lib.hid ((L0.out.kid hS1 hF1 hK1).alloc w1.heap.size rfl 25 (ncc h1 A1 k1.len c1))
  have HN1 := Lib.hid hN1
  clear hS1 hF1 hK1 hN1 C1
  obtain ⟨x11, x12, x13, x14, x15⟩ := h1
  dsimp only at *
  have rk := L1.out.st.row.cell
  have CE : ∀ n, Calls Tryz.prog 64 #[X.p] ((w1.alloc (.cells (ncc ⟨x11, x12, x13, x14, x15⟩ A1 k1.len c1) 25)).drewN n) fun e w' => e = .returned (.int .i64 (lastI X : Int)) ∧ ∃ m, w' = ((w1.alloc (.cells (ncc ⟨x11, x12, x13, x14, x15⟩ A1 k1.len c1) 25)).drewN n).drewN m := fun n => end_q X t _ (L1.out.st.below (below_drewN (Below.refl _ _) n))
  have CEH := Lib.hid CE
  have HLA := Lib.hid L1.out.st.last
  have HPG : Hid (pos X t + 1 < X.l.length → t.2 < 0 ∧ pos X t = t.1) := fun h => PSt.pos_on L1.out.st h
  have hrk := L1.out.st.lt
  have hplk := L1.out.st.pos_lt
  clear CE
  by_cases hp : pos X t + 1 < X.l.length
  · obtain ⟨hs, hpo⟩ := HPG.out hp
    have HOUT : Hid (wholeM X.l (rf, t) = .bad 24 t.1) := by
      unfold Hid wholeM
      rw [if_neg (by dsimp only; omega), if_pos (by dsimp only; omega)]
    have hd : decide (((pos X t : Nat) : Int) < (lastI X : Int)) = true := decide_eq_true (by have := HLA.out; omega)
    have hd2 : decide (pos X t < lastI X) = true := decide_eq_true (by have := HLA.out; omega)
    have HWR : Hid (wrong (failS t) = (t.1 : Int)) := by
      have hf : failS t = (t.1, (t.1 : Int)) := by unfold failS; rw [if_neg (by omega)]
      unfold Hid
      rw [hf]
      unfold wrong
      rw [if_pos (by dsimp only; omega)]
    have HFB := Lib.hid (failS_bad t)
    have HLT := Lib.hid (show t.1 < X.l.length by omega)
    clear hs hpo HPG HLA hp
    generalize pos X t = pk at *
    go_wp2_with fail
    go_quiet (first
      | (go_at_call 64; exact Calls.quiet_of (CEH.out _)))
    rename_i nq
    have L2 := Lib.hid (L1.out.other (below_drewN (Below.refl _ _) nq))
    have CF := Lib.hid (fail_any X t _ L2.out.st)
    clear rk CEH
    go_wp2_with fail
    refine CF.out.mono ?_
    rintro e wz ⟨rfl, hSw, hFw⟩
    have L3 := Lib.hid (L2.out.step hSw hFw)
    clear hSw hFw CF
    have rk := L3.out.st.row.cell
    have u1 := (L3.out.row 1 rfl).cell
    have u2 := (L3.out.row 1 rfl).thaw
    have n1 := (L3.out.row 0 rfl).cell
    have hrk := L3.out.st.lt
    have hwr := L3.out.st.wrong_le
    have LY := Lib.hid (L3.out.put6 1 rfl rfl (.int .i64 0) (.int .i64 0) (.int .i64 0) (.string ⟨#[]⟩) (.int .i64 0) (.slice none 0 0))
    rw [decide_eq_true HFB.out, HWR.out] at rk
    clear hwr HFB HWR
    go_wp2_with fail
    go_region
    all_goals
      go_wp2
      refine bodyPost_ret (v := .tuple #[nv0, .int .i64 24, .int .i64 (t.1 : Int)]) ?_ rfl ⟨(LY.out.other ((Below.refl _ _).drew)).fr, by rw [HOUT.out]; exact ⟨rfl, HLT.out⟩⟩
      simp [results, Tryz.results43, go_sem, u1]
      try first | rfl | exact ⟨rfl, rfl⟩
  · have hd : decide (((pos X t : Nat) : Int) < (lastI X : Int)) = false := decide_eq_false (by have := HLA.out; omega)
    have hd2 : decide (pos X t < lastI X) = false := decide_eq_false (by have := HLA.out; omega)
    have HNO : Hid (t.2 < 0 → ¬ t.1 + 1 < X.l.length) := fun h => by rw [pos_good h] at hp; exact hp
    clear HPG HLA hp
    generalize pos X t = pk at *
    go_wp2_with fail
    go_quiet (first
      | (go_at_call 64; exact Calls.quiet_of (CEH.out _)))
    rename_i nq
    have L3 := Lib.hid (L1.out.other (below_drewN (Below.refl _ _) nq))
    clear rk CEH L1
    generalize (w1.alloc (.cells (ncc ⟨x11, x12, x13, x14, x15⟩ A1 k1.len c1) 25)).drewN nq = W at *
    have rk := L3.out.st.row.cell
    have u1 := (L3.out.row 1 rfl).cell
    have u2 := (L3.out.row 1 rfl).thaw
    have n1 := (L3.out.row 0 rfl).cell
    have hrk := L3.out.st.lt
    have hwr := L3.out.st.wrong_le
    have LY := Lib.hid (L3.out.put6 1 rfl rfl (.int .i64 0) (.int .i64 0) (.int .i64 0) (.string ⟨#[]⟩) (.int .i64 0) (.slice none 0 0))
    by_cases hs : 0 ≤ t.2
    · have HOUT : Hid (wholeM X.l (rf, t) = .bad 24 t.2.toNat) := by unfold Hid wholeM; rw [if_pos hs]
      have HLT := Lib.hid (show t.2.toNat < X.l.length by have := L3.out.st.bb; omega)
      have HWR : Hid (wrong t = ((t.2.toNat : Nat) : Int)) := by unfold Hid wrong; rw [if_pos hs]; omega
      rw [decide_eq_true hs, HWR.out] at rk
      clear hwr HWR hs
      generalize t.2.toNat = tn at *
      go_wp2_with fail
      go_region
      all_goals
        go_wp2
        refine bodyPost_ret (v := .tuple #[nv0, .int .i64 24, .int .i64 (tn : Int)]) ?_ rfl ⟨(LY.out.other ((Below.refl _ _).drew)).fr, by rw [HOUT.out]; exact ⟨rfl, HLT.out⟩⟩
        simp [results, Tryz.results43, go_sem, u1]
        try first | rfl | exact ⟨rfl, rfl⟩
    · rw [decide_eq_false hs] at rk
      have h1 := HN1.out (by omega)
      obtain ⟨b1, b2⟩ := HBD.out (by omega)
      rw [h1, Fo.deep_one] at b1
      rw [h1, Fo.wide_one] at b2
      obtain ⟨dk, hdk⟩ : ∃ dk, dk = 1 + k1.deep := ⟨_, rfl⟩
      have CD := depth_any k1.deep ⟨x11, x12, x13, x14, x15⟩ k1 A1 c1 _ _ (Nat.le_refl _) (by omega) (by omega) (by omega) (L3.out.kidP 0 rfl)
      rw [← hdk] at CD
      have CD := Lib.hid CD
      have HOUT : Hid (wholeM X.l (rf, t) = if 60 < dk then .bad 25 0 else .ok ⟨x11, x12, x13, x14, x15⟩ k1) := by
        unfold Hid wholeM
        rw [if_neg hs, if_neg (HNO.out (by omega)), hdk]
        dsimp only
        rw [h1]
        rfl
      clear hwr hs HNO h1 b1 b2 hdk HBD HN1 LY
      go_wp2_with fail
      refine CD.out.mono ?_
      rintro e w4 ⟨rfl, hb4⟩
      have L4 := Lib.hid (L3.out.other hb4)
      have v1 := (L4.out.row 1 rfl).cell
      have v2 := (L4.out.row 1 rfl).thaw
      have m1 := (L4.out.row 0 rfl).cell
      clear hb4 CD rk u1 u2 n1
      by_cases hd : 60 < dk
      · have LY := Lib.hid (L4.out.put6 1 rfl rfl (.int .i64 0) (.int .i64 0) (.int .i64 0) (.string ⟨#[]⟩) (.int .i64 0) (.slice none 0 0))
        have hz : (dk : Int) > 60 := by omega
        go_wp2
        refine bodyPost_ret (v := .tuple #[nv0, .int .i64 25, .int .i64 0]) ?_ rfl ⟨LY.out.fr, by rw [HOUT.out, if_pos hd]; exact ⟨rfl, hl.1⟩⟩
        simp [results, Tryz.results43, go_sem, v1]
        try first | rfl | exact ⟨rfl, rfl⟩
      · have LY := Lib.hid (L4.out.put6 1 rfl rfl (.int .i64 x11) (.int .i64 x12) (.int .i64 x13) (.string x14) (.int .i64 x15) (.slice A1 k1.len c1))
        have hz : ¬ (dk : Int) > 60 := by omega
        go_wp2
        refine bodyPost_ret (v := .tuple #[nvv ⟨x11, x12, x13, x14, x15⟩ A1 k1.len c1, .int .i64 0, .int .i64 0]) ?_ rfl ⟨LY.out.fr, by rw [HOUT.out, if_neg hd]; exact ⟨A1, c1, rfl, (LY.out.kidP 0 rfl).new_ (fun g h => h.1)⟩⟩
        simp [results, Tryz.results43, go_sem, v1]
        try first | rfl | exact ⟨rfl, rfl⟩
end Pg
end Go.Proofs.YtiabkkdeonepgaaGreatDoor
namespace Go.Proofs.YtiabkkdeonepgaaGreatDoor
open Go.RowKit
namespace Pg
open Ps
def parseM (l : List Tok) : Out := match itemsM l fuel (-1) 0 with
  | none => .bad 0 0
  | some q => wholeM l (.one ⟨1, 0, q.2.1, e0, 0⟩ q.1, q.2)
def OutQ (n : Nat) (w : World) (o : Out) (e : Ending) (w' : World) : Prop :=
  Below w.heap.size w w' ∧ match o with
    | .ok h k => ∃ A cap, e = .returned (.tuple #[nvv h A k.len cap, .int .i64 0, .int .i64 0]) ∧ KV w' (fun g => w.heap.size ≤ g) k A cap
    | .bad er a => e = .returned (.tuple #[nv0, .int .i64 er, .int .i64 a]) ∧ a < n
theorem PSt.new {w w' : World} {A : Option Addr} {l : List Tok} {c B : Nat} (hT : TokAt w A l) (W : Wf2 l) (hc : l.length ≤ c) (hB : w.heap.size ≤ B) (hb : Below w.heap.size w w') (hr : RowB w' B 86 #[.slice A l.length c, .int .i64 0, .bool false, .int .i64 0]) : PSt ⟨B, A, l, c⟩ w' (0, -1) := by
  obtain ⟨g, e, hg, ht⟩ := hT W.pos
  refine ⟨hr, ⟨g, e, by dsimp only; omega, fun i hi => ?_⟩, W, hc, fun _ => W.pos, by dsimp only; omega⟩
  obtain ⟨c0, c1, c2, c3⟩ := ht i hi
  exact ⟨(hb.cell (p := ⟨g, i * 4, none⟩) hg).trans c0, (hb.cell (p := ⟨g, i * 4 + 1, none⟩) hg).trans c1, (hb.cell (p := ⟨g, i * 4 + 2, none⟩) hg).trans c2, (hb.cell (p := ⟨g, i * 4 + 3, none⟩) hg).trans c3⟩
theorem enter44 : ∀ args w, (callFunc 44 args).run Tryz.prog w = .ok (.enter 44 args) w := enters_of Tryz.func44 (by kernel_rfl) rfl
set_option maxHeartbeats 8000000 in
theorem parse_any (l : List Tok) (A : Option Addr) (c : Nat) (w : World) (hT : TokAt w A l) (W : Wf2 l) (hc : l.length ≤ c) :
    Calls Tryz.prog 25 #[.slice A l.length c] w (OutQ l.length w (parseM l)) := by
  have hpos := W.pos
  have hle := W.le
  obtain ⟨g, eg, hg, ht⟩ := hT hpos
  obtain ⟨la, hla⟩ : ∃ la, la + 1 = l.length := ⟨l.length - 1, by omega⟩
  have hlai : la < l.length := by omega
  have c0 := (ht la hlai).1
  have hk0 : l[la].kind = 0 := by
    by_cases hk : l[la].kind = 0
    · exact hk
    · have := W.next la hlai hk; omega
  rw [hk0] at c0
  obtain ⟨q, hq, _⟩ := items_some W.toWf
  have hpm : parseM l = wholeM l (.one ⟨1, 0, q.2.1, e0, 0⟩ q.1, q.2) := by unfold parseM; rw [hq]
  rw [hpm]
  have hd := items_deep' hq
  have hw := items_wide' hq
  have B2 := Lib.hid (((Below.refl w.heap.size w).alloc (Nat.le_refl _) (.cells zcc 25)).alloc (by simp) (.cells #[.slice A l.length c, .int .i64 0, .bool false, .int .i64 0] 86))
  have R1 : Hid (RowB ((w.alloc (.cells zcc 25)).alloc (.cells #[.slice A l.length c, .int .i64 0, .bool false, .int .i64 0] 86)) w.heap.size 25 zcc) := (RowB.new w 25 zcc).alloc _
  have R2 : RowB ((w.alloc (.cells zcc 25)).alloc (.cells #[.slice A l.length c, .int .i64 0, .bool false, .int .i64 0] 86)) (w.heap.size + 1) 86 #[.slice A l.length c, .int .i64 0, .bool false, .int .i64 0] := by
    have := RowB.new (w.alloc (.cells zcc 25)) 86 #[.slice A l.length c, .int .i64 0, .bool false, .int .i64 0]
    simpa using this
  have PS := PSt.new (B := w.heap.size + 1) hT W hc (by omega) B2.out R2
  have CW := Lib.hid (whole_q ⟨w.heap.size + 1, A, l, c⟩ (fileR ⟨w.heap.size + 1, A, l, c⟩ fuel) 44 (fun w => enter44 _ w) (file_all _ fuel (by unfold fuel; omega)) _ (.one ⟨1, 0, q.2.1, e0, 0⟩ q.1, q.2) (by
    show (itemsM l fuel (-1) 0).bind _ = _
    rw [hq]; rfl) (fun _ => ⟨by dsimp only; rw [Fo.deep_one]; omega, by dsimp only; rw [Fo.wide_one]; omega⟩) PS)
  have e1 : IntKind.i64.wrap ((l.length : Int) - 1) = (la : Int) := by rw [IntKind.wrap_i64]; omega
  have hli : (la : Int) < (l.length : Int) := by omega
  have h0 : ((l.length : Int) == 0) = false := by rw [beq_eq_false_iff_ne]; omega
  have h4 : ¬ (l.length : Int) > 4000 := by omega
  rw [eg] at CW B2 R1 ⊢
  clear ht hk0 hq hpm hd hw PS R2 hT W eg hla
  generalize wholeM l _ = o at *
  go_enter Tryz.func25, Tryz.ntmps25
  go_wp2_with fail
  refine CW.out.mono ?_
  rintro e w3 ⟨hF, ho⟩
  have B3 := Lib.hid (B2.out.trans (Fr.below hF (B' := w.heap.size) (by simp; omega) (by dsimp only; omega)))
  have R3 := hF.row R1.out (by simp; omega) (by dsimp only; omega)
  have r1 := R3.cell
  have r2 := R3.thaw
  clear R1 B2 CW R3
  cases o with
  | ok h k =>
    obtain ⟨A1, c1, rfl, hk⟩ := ho
    have HK : Hid (KV w3 (fun g => w.heap.size + 2 ≤ g) k A1 c1) := hk.keep (Nat.le_refl _) (fun g hg _ => ⟨rfl, by simp at hg; omega⟩)
    obtain ⟨x1, x2, x3, x4, x5⟩ := h
    clear hk hF
    go_wp2
    refine bodyPost_ret (v := .tuple #[nvv ⟨x1, x2, x3, x4, x5⟩ A1 k.len c1, .int .i64 0, .int .i64 0]) ?_ rfl ⟨below_put6 B3.out (Nat.le_refl _) _ _ _ _ _ _, A1, c1, rfl, HK.out.keep (by simp [World.setCell]) (fun g hg _ => ⟨?_, by omega⟩)⟩
    · simp [results, Tryz.results25, go_sem, r1]
      try first | rfl | exact ⟨rfl, rfl⟩
    · iterate 6 rw [Below.heap_setCell _ _ _ _ (by dsimp only; omega)]
  | bad er a =>
    obtain ⟨rfl, hal⟩ := ho
    clear hF
    go_wp2
    refine bodyPost_ret (v := .tuple #[nv0, .int .i64 er, .int .i64 a]) ?_ rfl ⟨below_put6 B3.out (Nat.le_refl _) _ _ _ _ _ _, rfl, hal⟩
    simp [results, Tryz.results25, go_sem, r1]
    try first | rfl | exact ⟨rfl, rfl⟩
end Pg
end Go.Proofs.YtiabkkdeonepgaaGreatDoor
