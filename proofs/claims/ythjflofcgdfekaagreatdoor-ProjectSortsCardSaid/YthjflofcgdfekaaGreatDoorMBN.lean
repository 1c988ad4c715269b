import Derived.Test.YthjflofcgdfekaaGreatDoorMBM
import Derived.Test.YthjflofcgdfekaaGreatDoorMBL
import Derived.Test.YthjflofcgdfekaaGreatDoorMAV
import Derived.Lib.Builder
import Derived.Lib.AppendStr
import Derived.Lib.OthersKept
import Derived.Test.YthjflofcgdfekaaGreatDoorBase
import Derived.Test.YthjflofcgdfekaaGreatDoorMAZ
import Derived.RegionTactic
namespace Go.Proofs.YthjflofcgdfekaaGreatDoor
open Go.RowKit
namespace Pg
open Ps
inductive Out where
  | ok (h : Hd) (k : Fo)
  | bad (e a : Nat)
def wholeM (l : List Tok) (r : Fo × Sd) : Out :=
  if 0 ≤ r.2.2 then .bad 24 r.2.2.toNat
  else if r.2.1 + 1 < l.length then .bad 24 r.2.1
  else match r.1 with
    | .nil => .bad 0 0
    | .cons h k _ => if 60 < 1 + k.deep then .bad 25 0 else .ok h k
def WholeQ (X : Cx) (w : World) (o : Out) (e : Ending) (w' : World) : Prop :=
  Fr X.rb w.heap.size w w' ∧ match o with
    | .ok h k => ∃ A cap, e = .returned (.tuple #[nvv h A k.len cap, .int .i64 0, .int .i64 0]) ∧ KV w' (fun g => w.heap.size ≤ g) k A cap
    | .bad er a => e = .returned (.tuple #[nv0, .int .i64 er, .int .i64 a]) ∧ a < X.l.length
set_option maxHeartbeats 8000000 in
set_option maxRecDepth 100000 in
theorem whole_q (X : Cx) (M : Sd → Res) (F : Nat) (eF : ∀ w, (callFunc F #[X.p]).run Tryz.prog w = .ok (.enter F #[X.p]) w) (I : RuleQ X True M F) (w : World) (r : Fo × Sd) (hM : M (0, -1) = some r) (hb : r.2.2 < 0 → r.1.deep ≤ 1000000000000 ∧ r.1.wide ≤ 1000001) (hS : PSt X w (0, -1)) :
    Calls Tryz.prog 135 #[X.p, .func (.func F) #[X.p] #[]] w (WholeQ X w (wholeM X.l r)) := by
  have L0 := Lib.hid ((LS.start hS).alloc w.heap.size rfl 38 zcc)
  have hrb := hS.lt
  have hl := hS.len
  have C1 : Hid (∀ w', PSt X w' (0, -1) → Calls Tryz.prog F #[X.p] w' (NodeQ X w' r)) := fun w' h => I (0, -1) w' r (fun _ => ⟨trivial, hM⟩) (fun h => absurd h (by decide)) h
  have HBD := Lib.hid hb
  clear hb hM hS I
  obtain ⟨rf, t⟩ := r
  dsimp only at *
  go_enter Tryz.func135, Tryz.ntmps135
  go_wp2_with fail
  refine (C1.out _ L0.out.st).mono ?_
  rintro e w1 ⟨h1, k1, A1, c1, rfl, hK1, hS1, hF1, hN1⟩
  have L1 := Lib.hid ((L0.out.kid hS1 hF1 hK1).alloc w1.heap.size rfl 38 (ncc h1 A1 k1.len c1))
  have HN1 := Lib.hid hN1
  clear hS1 hF1 hK1 hN1 C1
  obtain ⟨x11, x12, x13, x14, x15⟩ := h1
  dsimp only at *
  have rk := L1.out.st.row.cell
  have CE : ∀ n, Calls Tryz.prog 168 #[X.p] ((w1.alloc (.cells (ncc ⟨x11, x12, x13, x14, x15⟩ A1 k1.len c1) 38)).drewN n) fun e w' => e = .returned (.int .i64 (lastI X : Int)) ∧ ∃ m, w' = ((w1.alloc (.cells (ncc ⟨x11, x12, x13, x14, x15⟩ A1 k1.len c1) 38)).drewN n).drewN m := fun n => end_q X t _ (L1.out.st.below (below_drewN (Below.refl _ _) n))
  have CEH := Lib.hid CE
  have HLA := Lib.hid L1.out.st.last
  have HPG : Hid (pos X t + 1 < X.l.length → t.2 < 0 ∧ pos X t = t.1) := fun h => PSt.pos_on L1.out.st h
  have hrk := L1.out.st.lt
  have hplk := L1.out.st.pos_lt
  clear CE
  by_cases hp : pos X t + 1 < X.l.length
  · obtain ⟨hs, hpo⟩ := HPG.out hp
    have HOUT : Hid (wholeM X.l (rf, t) = .bad 24 t.1) := by
      unfold Hid wholeM
      rw [if_neg (by dsimp only; omega), if_pos (by dsimp only; omega)]
    have hd : decide (((pos X t : Nat) : Int) < (lastI X : Int)) = true := decide_eq_true (by have := HLA.out; omega)
    have hd2 : decide (pos X t < lastI X) = true := decide_eq_true (by have := HLA.out; omega)
    have HWR : Hid (wrong (failS t) = (t.1 : Int)) := by
      have hf : failS t = (t.1, (t.1 : Int)) := by unfold failS; rw [if_neg (by omega)]
      unfold Hid
      rw [hf]
      unfold wrong
      rw [if_pos (by dsimp only; omega)]
    have HFB := Lib.hid (failS_bad t)
    have HLT := Lib.hid (show t.1 < X.l.length by omega)
    clear hs hpo HPG HLA hp
    generalize pos X t = pk at *
    go_wp2_with fail
    go_quiet (first
      | (go_at_call 168; exact Calls.quiet_of (CEH.out _)))
    rename_i nq
    have L2 := Lib.hid (L1.out.other (below_drewN (Below.refl _ _) nq))
    have CF := Lib.hid (fail_any X t _ L2.out.st)
    clear rk CEH
    go_wp2_with fail
    refine CF.out.mono ?_
    rintro e wz ⟨rfl, hSw, hFw⟩
    have L3 := Lib.hid (L2.out.step hSw hFw)
    clear hSw hFw CF
    have rk := L3.out.st.row.cell
    have u1 := (L3.out.row 1 rfl).cell
    have u2 := (L3.out.row 1 rfl).thaw
    have n1 := (L3.out.row 0 rfl).cell
    have hrk := L3.out.st.lt
    have hwr := L3.out.st.wrong_le
    have LY := Lib.hid (L3.out.put6 1 rfl rfl (.int .i64 0) (.int .i64 0) (.int .i64 0) (.string ⟨#[]⟩) (.int .i64 0) (.slice none 0 0))
    rw [decide_eq_true HFB.out, HWR.out] at rk
    clear hwr HFB HWR
    go_wp2_with fail
    go_region
    all_goals
      go_wp2
      refine bodyPost_ret (v := .tuple #[nv0, .int .i64 24, .int .i64 (t.1 : Int)]) ?_ rfl ⟨(LY.out.other ((Below.refl _ _).drew)).fr, by rw [HOUT.out]; exact ⟨rfl, HLT.out⟩⟩
      simp [results, Tryz.results135, go_sem, u1]
      try first | rfl | exact ⟨rfl, rfl⟩
  · have hd : decide (((pos X t : Nat) : Int) < (lastI X : Int)) = false := decide_eq_false (by have := HLA.out; omega)
    have hd2 : decide (pos X t < lastI X) = false := decide_eq_false (by have := HLA.out; omega)
    have HNO : Hid (t.2 < 0 → ¬ t.1 + 1 < X.l.length) := fun h => by rw [pos_good h] at hp; exact hp
    clear HPG HLA hp
    generalize pos X t = pk at *
    go_wp2_with fail
    go_quiet (first
      | (go_at_call 168; exact Calls.quiet_of (CEH.out _)))
    rename_i nq
    have L3 := Lib.hid (L1.out.other (below_drewN (Below.refl _ _) nq))
    clear rk CEH L1
    generalize (w1.alloc (.cells (ncc ⟨x11, x12, x13, x14, x15⟩ A1 k1.len c1) 38)).drewN nq = W at *
    have rk := L3.out.st.row.cell
    have u1 := (L3.out.row 1 rfl).cell
    have u2 := (L3.out.row 1 rfl).thaw
    have n1 := (L3.out.row 0 rfl).cell
    have hrk := L3.out.st.lt
    have hwr := L3.out.st.wrong_le
    have LY := Lib.hid (L3.out.put6 1 rfl rfl (.int .i64 0) (.int .i64 0) (.int .i64 0) (.string ⟨#[]⟩) (.int .i64 0) (.slice none 0 0))
    by_cases hs : 0 ≤ t.2
    · have HOUT : Hid (wholeM X.l (rf, t) = .bad 24 t.2.toNat) := by unfold Hid wholeM; rw [if_pos hs]
      have HLT := Lib.hid (show t.2.toNat < X.l.length by have := L3.out.st.bb; omega)
      have HWR : Hid (wrong t = ((t.2.toNat : Nat) : Int)) := by unfold Hid wrong; rw [if_pos hs]; omega
      rw [decide_eq_true hs, HWR.out] at rk
      clear hwr HWR hs
      generalize t.2.toNat = tn at *
      go_wp2_with fail
      go_region
      all_goals
        go_wp2
        refine bodyPost_ret (v := .tuple #[nv0, .int .i64 24, .int .i64 (tn : Int)]) ?_ rfl ⟨(LY.out.other ((Below.refl _ _).drew)).fr, by rw [HOUT.out]; exact ⟨rfl, HLT.out⟩⟩
        simp [results, Tryz.results135, go_sem, u1]
        try first | rfl | exact ⟨rfl, rfl⟩
    · rw [decide_eq_false hs] at rk
      have h1 := HN1.out (by omega)
      obtain ⟨b1, b2⟩ := HBD.out (by omega)
      rw [h1, Fo.deep_one] at b1
      rw [h1, Fo.wide_one] at b2
      obtain ⟨dk, hdk⟩ : ∃ dk, dk = 1 + k1.deep := ⟨_, rfl⟩
      have CD := depth_any k1.deep ⟨x11, x12, x13, x14, x15⟩ k1 A1 c1 _ _ (Nat.le_refl _) (by omega) (by omega) (by omega) (L3.out.kidP 0 rfl)
      rw [← hdk] at CD
      have CD := Lib.hid CD
      have HOUT : Hid (wholeM X.l (rf, t) = if 60 < dk then .bad 25 0 else .ok ⟨x11, x12, x13, x14, x15⟩ k1) := by
        unfold Hid wholeM
        rw [if_neg hs, if_neg (HNO.out (by omega)), hdk]
        dsimp only
        rw [h1]
        rfl
      clear hwr hs HNO h1 b1 b2 hdk HBD HN1 LY
      go_wp2_with fail
      refine CD.out.mono ?_
      rintro e w4 ⟨rfl, hb4⟩
      have L4 := Lib.hid (L3.out.other hb4)
      have v1 := (L4.out.row 1 rfl).cell
      have v2 := (L4.out.row 1 rfl).thaw
      have m1 := (L4.out.row 0 rfl).cell
      clear hb4 CD rk u1 u2 n1
      by_cases hd : 60 < dk
      · have LY := Lib.hid (L4.out.put6 1 rfl rfl (.int .i64 0) (.int .i64 0) (.int .i64 0) (.string ⟨#[]⟩) (.int .i64 0) (.slice none 0 0))
        have hz : (dk : Int) > 60 := by omega
        go_wp2
        refine bodyPost_ret (v := .tuple #[nv0, .int .i64 25, .int .i64 0]) ?_ rfl ⟨LY.out.fr, by rw [HOUT.out, if_pos hd]; exact ⟨rfl, hl.1⟩⟩
        simp [results, Tryz.results135, go_sem, v1]
        try first | rfl | exact ⟨rfl, rfl⟩
      · have LY := Lib.hid (L4.out.put6 1 rfl rfl (.int .i64 x11) (.int .i64 x12) (.int .i64 x13) (.string x14) (.int .i64 x15) (.slice A1 k1.len c1))
        have hz : ¬ (dk : Int) > 60 := by omega
        go_wp2
        refine bodyPost_ret (v := .tuple #[nvv ⟨x11, x12, x13, x14, x15⟩ A1 k1.len c1, .int .i64 0, .int .i64 0]) ?_ rfl ⟨LY.out.fr, by rw [HOUT.out, if_neg hd]; exact ⟨A1, c1, rfl, (LY.out.kidP 0 rfl).new_ (fun g h => h.1)⟩⟩
        simp [results, Tryz.results135, go_sem, v1]
        try first | rfl | exact ⟨rfl, rfl⟩
end Pg
end Go.Proofs.YthjflofcgdfekaaGreatDoor
namespace Go.Proofs.YthjflofcgdfekaaGreatDoor
open Go.RowKit
namespace Pg
open Ps
def parseM (l : List Tok) : Out := match itemsM l fuel (-1) 0 with
  | none => .bad 0 0
  | some q => wholeM l (.one ⟨1, 0, q.2.1, e0, 0⟩ q.1, q.2)
def OutQ (n : Nat) (w : World) (o : Out) (e : Ending) (w' : World) : Prop :=
  Below w.heap.size w w' ∧ match o with
    | .ok h k => ∃ A cap, e = .returned (.tuple #[nvv h A k.len cap, .int .i64 0, .int .i64 0]) ∧ KV w' (fun g => w.heap.size ≤ g) k A cap
    | .bad er a => e = .returned (.tuple #[nv0, .int .i64 er, .int .i64 a]) ∧ a < n
theorem PSt.new {w w' : World} {A : Option Addr} {l : List Tok} {c B : Nat} (hT : TokAt w A l) (W : Wf2 l) (hc : l.length ≤ c) (hB : w.heap.size ≤ B) (hb : Below w.heap.size w w') (hr : RowB w' B 220 #[.slice A l.length c, .int .i64 0, .bool false, .int .i64 0]) : PSt ⟨B, A, l, c⟩ w' (0, -1) := by
  obtain ⟨g, e, hg, ht⟩ := hT W.pos
  refine ⟨hr, ⟨g, e, by dsimp only; omega, fun i hi => ?_⟩, W, hc, fun _ => W.pos, by dsimp only; omega⟩
  obtain ⟨c0, c1, c2, c3⟩ := ht i hi
  exact ⟨(hb.cell (p := ⟨g, i * 4, none⟩) hg).trans c0, (hb.cell (p := ⟨g, i * 4 + 1, none⟩) hg).trans c1, (hb.cell (p := ⟨g, i * 4 + 2, none⟩) hg).trans c2, (hb.cell (p := ⟨g, i * 4 + 3, none⟩) hg).trans c3⟩
theorem enter136 : ∀ args w, (callFunc 136 args).run Tryz.prog w = .ok (.enter 136 args) w := enters_of Tryz.func136 (by kernel_rfl) rfl
set_option maxHeartbeats 8000000 in
set_option maxRecDepth 100000 in
theorem parse_any (l : List Tok) (A : Option Addr) (c : Nat) (w : World) (hT : TokAt w A l) (W : Wf2 l) (hc : l.length ≤ c) :
    Calls Tryz.prog 104 #[.slice A l.length c] w (OutQ l.length w (parseM l)) := by
  have hpos := W.pos
  have hle := W.le
  obtain ⟨g, eg, hg, ht⟩ := hT hpos
  obtain ⟨la, hla⟩ : ∃ la, la + 1 = l.length := ⟨l.length - 1, by omega⟩
  have hlai : la < l.length := by omega
  have c0 := (ht la hlai).1
  have hk0 : l[la].kind = 0 := by
    by_cases hk : l[la].kind = 0
    · exact hk
    · have := W.next la hlai hk; omega
  rw [hk0] at c0
  obtain ⟨q, hq, _⟩ := items_some W.toWf
  have hpm : parseM l = wholeM l (.one ⟨1, 0, q.2.1, e0, 0⟩ q.1, q.2) := by unfold parseM; rw [hq]
  rw [hpm]
  have hd := items_deep' hq
  have hw := items_wide' hq
  have B2 := Lib.hid (((Below.refl w.heap.size w).alloc (Nat.le_refl _) (.cells zcc 38)).alloc (by simp) (.cells #[.slice A l.length c, .int .i64 0, .bool false, .int .i64 0] 220))
  have R1 : Hid (RowB ((w.alloc (.cells zcc 38)).alloc (.cells #[.slice A l.length c, .int .i64 0, .bool false, .int .i64 0] 220)) w.heap.size 38 zcc) := (RowB.new w 38 zcc).alloc _
  have R2 : RowB ((w.alloc (.cells zcc 38)).alloc (.cells #[.slice A l.length c, .int .i64 0, .bool false, .int .i64 0] 220)) (w.heap.size + 1) 220 #[.slice A l.length c, .int .i64 0, .bool false, .int .i64 0] := by
    have := RowB.new (w.alloc (.cells zcc 38)) 220 #[.slice A l.length c, .int .i64 0, .bool false, .int .i64 0]
    simpa using this
  have PS := PSt.new (B := w.heap.size + 1) hT W hc (by omega) B2.out R2
  have CW := Lib.hid (whole_q ⟨w.heap.size + 1, A, l, c⟩ (fileR ⟨w.heap.size + 1, A, l, c⟩ fuel) 136 (fun w => enter136 _ w) (file_all _ fuel (by unfold fuel; omega)) _ (.one ⟨1, 0, q.2.1, e0, 0⟩ q.1, q.2) (by
    show (itemsM l fuel (-1) 0).bind _ = _
    rw [hq]; rfl) (fun _ => ⟨by dsimp only; rw [Fo.deep_one]; omega, by dsimp only; rw [Fo.wide_one]; omega⟩) PS)
  have e1 : IntKind.i64.wrap ((l.length : Int) - 1) = (la : Int) := by rw [IntKind.wrap_i64]; omega
  have hli : (la : Int) < (l.length : Int) := by omega
  have h0 : ((l.length : Int) == 0) = false := by rw [beq_eq_false_iff_ne]; omega
  have h4 : ¬ (l.length : Int) > 4000 := by omega
  rw [eg] at CW B2 R1 ⊢
  clear ht hk0 hq hpm hd hw PS R2 hT W eg hla
  generalize wholeM l _ = o at *
  go_enter Tryz.func104, Tryz.ntmps104
  go_wp2_with fail
  refine CW.out.mono ?_
  rintro e w3 ⟨hF, ho⟩
  have B3 := Lib.hid (B2.out.trans (Fr.below hF (B' := w.heap.size) (by simp; omega) (by dsimp only; omega)))
  have R3 := hF.row R1.out (by simp; omega) (by dsimp only; omega)
  have r1 := R3.cell
  have r2 := R3.thaw
  clear R1 B2 CW R3
  cases o with
  | ok h k =>
    obtain ⟨A1, c1, rfl, hk⟩ := ho
    have HK : Hid (KV w3 (fun g => w.heap.size + 2 ≤ g) k A1 c1) := hk.keep (Nat.le_refl _) (fun g hg _ => ⟨rfl, by simp at hg; omega⟩)
    obtain ⟨x1, x2, x3, x4, x5⟩ := h
    clear hk hF
    go_wp2
    refine bodyPost_ret (v := .tuple #[nvv ⟨x1, x2, x3, x4, x5⟩ A1 k.len c1, .int .i64 0, .int .i64 0]) ?_ rfl ⟨below_put6 B3.out (Nat.le_refl _) _ _ _ _ _ _, A1, c1, rfl, HK.out.keep (by simp [World.setCell]) (fun g hg _ => ⟨?_, by omega⟩)⟩
    · simp [results, Tryz.results104, go_sem, r1]
      try first | rfl | exact ⟨rfl, rfl⟩
    · iterate 6 rw [Below.heap_setCell _ _ _ _ (by dsimp only; omega)]
  | bad er a =>
    obtain ⟨rfl, hal⟩ := ho
    clear hF
    go_wp2
    refine bodyPost_ret (v := .tuple #[nv0, .int .i64 er, .int .i64 a]) ?_ rfl ⟨below_put6 B3.out (Nat.le_refl _) _ _ _ _ _ _, rfl, hal⟩
    simp [results, Tryz.results104, go_sem, r1]
    try first | rfl | exact ⟨rfl, rfl⟩
end Pg
end Go.Proofs.YthjflofcgdfekaaGreatDoor
namespace Go.Proofs.YthjflofcgdfekaaGreatDoor
open Go.RowKit
theorem Tabs.step {w w' : World} (h : Tabs w) (hb : Below w.heap.size w w') : Tabs w' := Utf8Tabs_below h hb
end Go.Proofs.YthjflofcgdfekaaGreatDoor
namespace Go.Proofs.YthjflofcgdfekaaGreatDoor
open Go.RowKit
def jl (l : List Tok) : List UInt8 := l.flatMap fun t => t.lead.data.toList ++ t.text.data.toList
end Go.Proofs.YthjflofcgdfekaaGreatDoor
namespace Go.Proofs.YthjflofcgdfekaaGreatDoor
open Go.RowKit
def Good (s : ByteArray) (k : Nat) (l : List Tok) : Prop :=
  jl l = tl s k ∧ 0 < l.length ∧ ∀ i (h : i < l.length), l[i].at_ = k + (jl (l.take i)).length + l[i].lead.size ∧ (l[i].kind = 0 ↔ i + 1 = l.length) ∧ (l[i].text.size = 0 ↔ l[i].kind = 0)
theorem cut_tl (s : ByteArray) (a b : Nat) (h : a ≤ b) (_hb : b ≤ s.size) : tl s a = (s.extract a b).data.toList ++ tl s b := by
  unfold tl
  rw [ByteArray.data_extract, Array.toList_extract, List.extract_eq_take_drop]
  have e := List.take_append_drop (b - a) (s.data.toList.drop a)
  rw [List.drop_drop, show a + (b - a) = b by omega] at e
  exact e.symm
theorem tok_bytes (s : ByteArray) (k : Nat) (h : k ≤ s.size) : tl s k = ((tokK s k).lead.data.toList ++ (tokK s k).text.data.toList) ++ tl s (endK s k) := by
  have h1 := atK_le s k h
  have h2 := endK_le s k h
  rw [cut_tl s k (atK s k) h1.1 h1.2, cut_tl s (atK s k) (endK s k) h2.1 h2.2, List.append_assoc]
  rfl
theorem tok_lead (s : ByteArray) (k : Nat) (h : k ≤ s.size) : (tokK s k).at_ = k + (tokK s k).lead.size := by
  have h1 := atK_le s k h
  show atK s k = k + (s.extract k (atK s k)).size
  rw [ByteArray.size_extract]
  omega
theorem tok_none (s : ByteArray) (k : Nat) (h : k ≤ s.size) (he : errK s k = 0) : ((tokK s k).text.size = 0 ↔ (tokK s k).kind = 0) ∧ ((tokK s k).kind = 0 → endK s k = s.size) := by
  obtain ⟨h1, h2⟩ := first_kind (tl s (atK s k)) he
  have h3 := tok_size s k h
  have h4 : endK s k = (tokK s k).at_ + (firstL (tl s (atK s k))).2.1 := rfl
  have h5 : (tokK s k).kind = (firstL (tl s (atK s k))).1 := rfl
  have h6 := tl_len s (atK s k)
  have h7 := atK_le s k h
  have h8 := endK_le s k h
  rw [h5]
  refine ⟨⟨fun hz => h1.2 (h2.1 (by omega)), fun hz => ?_⟩, fun hz => ?_⟩
  · have := h2.2 (h1.1 hz)
    omega
  · have := h1.1 hz
    rw [this] at h6
    simp at h6
    omega
theorem lexF_good (s : ByteArray) : ∀ (f k n : Nat) (l : List Tok), k ≤ s.size → lexF s f k n = .good l → Good s k l
  | 0, k, n, l, hk, h => by simp [lexF] at h
  | f + 1, k, n, l, hk, h => by
    by_cases he : errK s k = 0
    · by_cases hn : n = 4000
      · subst hn; rw [lexF_many he] at h; cases h
      · have hb := tok_bytes s k hk
        have hl := tok_lead s k hk
        obtain ⟨hx, hz⟩ := tok_none s k hk he
        by_cases h0 : (tokK s k).kind = 0
        · rw [lexF_end he hn h0] at h
          cases h
          rw [hz h0, tl_end s s.size (Nat.le_refl _), List.append_nil] at hb
          refine ⟨by rw [hb]; simp [jl], by simp, fun i hi => ?_⟩
          obtain rfl : i = 0 := by simp at hi; omega
          simp only [List.getElem_cons_zero, List.take_zero, List.length_cons, List.length_nil]
          exact ⟨by simpa [jl] using hl, by simp [h0], hx⟩
        · rw [lexF_next he hn h0] at h
          cases hr : lexF s f (endK s k) (n + 1) with
          | bad e a => rw [hr] at h; cases h
          | good l' =>
            rw [hr] at h
            cases h
            obtain ⟨g1, g2, g3⟩ := lexF_good s f (endK s k) (n + 1) l' (endK_le s k hk).2 hr
            have hts := tok_size s k hk
            refine ⟨by rw [hb, ← g1]; simp [jl], by simp, fun i hi => ?_⟩
            cases i with
            | zero =>
              simp only [List.cons_append, List.nil_append, List.getElem_cons_zero, List.take_zero, List.length_cons]
              exact ⟨by simpa [jl] using hl, ⟨fun e => absurd e h0, fun e => by omega⟩, hx⟩
            | succ j =>
              simp only [List.cons_append, List.nil_append, List.length_cons] at hi ⊢
              obtain ⟨a1, a2, a3⟩ := g3 j (by omega)
              simp only [List.getElem_cons_succ, List.take_succ_cons]
              refine ⟨?_, by rw [a2]; omega, a3⟩
              rw [a1]
              have : (jl (tokK s k :: l'.take j)).length = (tokK s k).lead.size + (tokK s k).text.size + (jl (l'.take j)).length := by
                simp [jl, Nat.add_assoc]
              rw [this]
              omega
    · rw [lexF_err he] at h; cases h
theorem lexF_bad (s : ByteArray) : ∀ (f k n : Nat) (e a : Int), lexF s f k n = .bad e a → e ≠ 0
  | 0, k, n, e, a, h => by
    simp [lexF] at h
    omega
  | f + 1, k, n, e, a, h => by
    by_cases he : errK s k = 0
    · by_cases hn : n = 4000
      · subst hn; rw [lexF_many he] at h; injection h; omega
      · by_cases h0 : (tokK s k).kind = 0
        · rw [lexF_end he hn h0] at h; cases h
        · rw [lexF_next he hn h0] at h
          cases hr : lexF s f (endK s k) (n + 1) with
          | bad e' a' =>
            rw [hr] at h
            injection h with h1 h2
            have := lexF_bad s f (endK s k) (n + 1) e' a' hr
            omega
          | good l' => rw [hr] at h; cases h
    · rw [lexF_err he] at h
      injection h with h1 h2
      omega
theorem lexR_bad {s : ByteArray} {e a : Int} (h : lexR s = .bad e a) : e ≠ 0 := by
  unfold lexR at h
  split at h
  · injection h; omega
  · split at h
    · injection h; omega
    · exact lexF_bad s _ _ _ _ _ h
theorem lexR_good {s : ByteArray} {l : List Tok} (h : lexR s = .good l) : Good s 0 l ∧ s.size ≤ 16384 := by
  unfold lexR at h
  split at h
  · cases h
  · split at h
    · cases h
    · exact ⟨lexF_good s _ _ _ _ (by omega) h, by omega⟩
end Go.Proofs.YthjflofcgdfekaaGreatDoor
namespace Go.Proofs.YthjflofcgdfekaaGreatDoor
open Ps
theorem tok_text (s : ByteArray) (k : Nat) : (tokK s k).text.data.toList = (tl s (atK s k)).take (firstL (tl s (atK s k))).2.1 := by
  unfold tokK tl
  dsimp only
  rw [ByteArray.data_extract, Array.toList_extract, List.extract_eq_take_drop]
  congr 1
  omega
theorem lexF_mem (s : ByteArray) : ∀ (f k n : Nat) (l : List Tok), lexF s f k n = .good l → ∀ t ∈ l, ∃ k, t = tokK s k ∧ errK s k = 0
  | 0, k, n, l, h => by simp [lexF] at h
  | f + 1, k, n, l, h => by
    by_cases he : errK s k = 0
    · by_cases hn : n = 4000
      · subst hn; rw [lexF_many he] at h; cases h
      · by_cases h0 : (tokK s k).kind = 0
        · rw [lexF_end he hn h0] at h
          cases h
          exact fun t ht => ⟨k, by simpa using ht, he⟩
        · rw [lexF_next he hn h0] at h
          cases hr : lexF s f (endK s k) (n + 1) with
          | bad e a => rw [hr] at h; cases h
          | good B =>
            rw [hr] at h
            cases h
            have h2 := lexF_mem s f _ _ B hr
            intro t ht
            rcases List.mem_cons.1 ht with rfl | ht
            · exact ⟨k, rfl, he⟩
            · exact h2 t ht
    · rw [lexF_err he] at h; cases h
theorem lexF_len (s : ByteArray) : ∀ (f k n : Nat) (l : List Tok), n ≤ 4000 → lexF s f k n = .good l → n + l.length ≤ 4000
  | 0, k, n, l, _, h => by simp [lexF] at h
  | f + 1, k, n, l, hn0, h => by
    by_cases he : errK s k = 0
    · by_cases hn : n = 4000
      · subst hn; rw [lexF_many he] at h; cases h
      · by_cases h0 : (tokK s k).kind = 0
        · rw [lexF_end he hn h0] at h
          cases h
          simp only [List.length_cons, List.length_nil]
          omega
        · rw [lexF_next he hn h0] at h
          cases hr : lexF s f (endK s k) (n + 1) with
          | bad e a => rw [hr] at h; cases h
          | good B =>
            rw [hr] at h
            cases h
            have := lexF_len s f _ _ B (by omega) hr
            simp only [List.cons_append, List.nil_append, List.length_cons]
            omega
    · rw [lexF_err he] at h; cases h
theorem lits_parts : ∀ x ∈ lits, x ≠ [] ∧ digN (x.getD 0 0).toNat = false ∧ (x.getD 0 0).toNat ≠ 34 ∧ (letN (x.getD 0 0).toNat = true → x ∈ keys) := by decide
theorem tok_lits {s : ByteArray} {k : Nat} (he : errK s k = 0) (h0 : (tokK s k).kind ≠ 0) (h2 : (tokK s k).kind ≠ 2) (h5 : (tokK s k).kind ≠ 5) : ∀ x ∈ lits, (tokK s k).text.data.toList ≠ x := by
  intro x hx e
  obtain ⟨p1, p2, p3, p4⟩ := lits_parts x hx
  rw [tok_text] at e
  have hk : (tokK s k).kind = (firstL (tl s (atK s k))).1 := rfl
  rw [hk] at h0 h2 h5
  unfold errK at he
  generalize tl s (atK s k) = l at *
  have hl : l ≠ [] := by
    rintro rfl
    exact h0 rfl
  have hd : x.getD 0 0 = l.getD 0 0 := by
    cases l with
    | nil => exact absurd rfl hl
    | cons b t =>
      cases hn : (firstL (b :: t)).2.1 with
      | zero => rw [hn, List.take_zero] at e; exact absurd e.symm p1
      | succ n => rw [hn, List.take_succ_cons] at e; rw [← e]; rfl
  rw [hd] at p2 p3 p4
  unfold firstL at h0 h2 h5 he e
  rw [if_neg hl] at h0 h2 h5 he e
  by_cases hlet : letN (l.getD 0 0).toNat = true
  · rw [if_pos hlet] at h0 h2 h5 he e
    unfold wordL at h0 h2 h5 he e
    by_cases hkey : keyL (l.take (wLen l)) = true
    · rw [if_pos hkey] at h2; exact h2 rfl
    · rw [if_neg hkey] at h0 e he
      split at e
      · rename_i hw; rw [if_pos hw] at h0; exact h0 rfl
      · have hm := p4 hlet
        dsimp only at e
        rw [← e] at hm
        exact hkey (by unfold keyL; simpa using hm)
  · rw [if_neg hlet] at h0 h2 h5 he e
    by_cases hdig : digN (l.getD 0 0).toNat = true
    · rw [hdig] at p2; cases p2
    · rw [if_neg hdig] at h0 h2 h5 he e
      by_cases hq : (l.getD 0 0).toNat = 34
      · exact p3 hq
      · rw [if_neg hq] at h0 h5
        unfold signL at h0 h5
        split at h5
        · exact h5 rfl
        · rename_i hp
          rw [if_neg hp] at h0
          split at h5
          · exact h5 rfl
          · rename_i hi
            rw [if_neg hi] at h0
            exact h0 rfl
theorem lexR_wf {s : ByteArray} {l : List Tok} (h : lexR s = .good l) (hle : l.length ≤ 4000) : Wf2 l := by
  have hg := (lexR_good h).1
  obtain ⟨_, hpos, hi⟩ := hg
  have hm : ∀ t ∈ l, ∃ k, t = tokK s k ∧ errK s k = 0 := by
    unfold lexR at h
    split at h
    · cases h
    · split at h
      · cases h
      · exact lexF_mem s _ _ _ _ h
  refine ⟨⟨hpos, fun i hl hk => ?_, hle⟩, fun i hl hn hk => ?_, fun i hl h2 h5 hn => ?_⟩
  · have := (hi i hl).2.1
    by_cases e : i + 1 = l.length
    · exact absurd (this.2 e) hk
    · omega
  · have := (hi i hl).2.1.1 hk
    omega
  · obtain ⟨k, e, he⟩ := hm l[i] (List.getElem_mem hl)
    rw [e] at h2 h5 ⊢
    refine tok_lits he ?_ h2 h5
    rw [← e]
    intro hk
    have := (hi i hl).2.1.1 hk
    omega
end Go.Proofs.YthjflofcgdfekaaGreatDoor
namespace Go.Proofs.YthjflofcgdfekaaGreatDoor
open Go.RowKit
namespace Pg
open Ps
inductive OfR where
  | ok (l : List Tok) (h : Hd) (k : Fo)
  | bad (e a : Int)
def atOf (l : List Tok) (a : Nat) : Nat := ((l[a]?).map Tok.at_).getD 0
def ofM (s : ByteArray) : OfR := match lexR s with
  | .bad e a => .bad e a
  | .good l => match parseM l with
    | .ok h k => .ok l h k
    | .bad e a => .bad e (atOf l a : Int)
def OfQ (w : World) (o : OfR) (e : Ending) (w' : World) : Prop :=
  Below w.heap.size w w' ∧ match o with
    | .ok l h k => ∃ A c A' c', e = .returned (.tuple #[.slice A l.length c, nvv h A' k.len c', .int .i64 0, .int .i64 0]) ∧ TokAt w' A l ∧ l.length ≤ c ∧ KV w' (fun g => w.heap.size ≤ g) k A' c'
    | .bad er a => e = .returned (.tuple #[.slice none 0 0, nv0, .int .i64 er, .int .i64 a])
theorem whole_bad {l : List Tok} {h : Hd} {k : Fo} {s : Sd} {e a : Nat} (hx : wholeM l (.one h k, s) = .bad e a) : e = 24 ∨ e = 25 := by
  unfold wholeM at hx
  split at hx
  · cases hx; exact .inl rfl
  · split at hx
    · cases hx; exact .inl rfl
    · simp only [Fo.one] at hx
      split at hx
      · cases hx; exact .inr rfl
      · cases hx
theorem parse_bad {l : List Tok} (W : Wf2 l) {e a : Nat} (h : parseM l = .bad e a) : e = 24 ∨ e = 25 := by
  obtain ⟨q, hq, _⟩ := items_some W.toWf
  unfold parseM at h
  rw [hq] at h
  exact whole_bad h
theorem frame6 (w : World) (g : Nat) (u0 u1 u2 u3 u4 u5 : Value) (o : Obj) : Fr g w.heap.size w (((((((w.setCell ⟨g, 0, none⟩ u0).setCell ⟨g, 1, none⟩ u1).setCell ⟨g, 2, none⟩ u2).setCell ⟨g, 3, none⟩ u3).setCell ⟨g, 4, none⟩ u4).setCell ⟨g, 5, none⟩ u5).alloc o).drew :=
  (((((((((Fr.refl g w.heap.size w).put 0 u0).put 1 u1).put 2 u2).put 3 u3).put 4 u4).put 5 u5).alloc (by simp [World.setCell]) o).trans (Fr.of (Below.refl _ _).drew))
theorem row6 {w : World} {g : Nat} {cs : Array Value} (h : RowB w g 38 cs) (hc : cs.size = 6) (u0 u1 u2 u3 u4 u5 : Value) (o : Obj) : ∀ i, (((((((w.setCell ⟨g, 0, none⟩ u0).setCell ⟨g, 1, none⟩ u1).setCell ⟨g, 2, none⟩ u2).setCell ⟨g, 3, none⟩ u3).setCell ⟨g, 4, none⟩ u4).setCell ⟨g, 5, none⟩ u5).alloc o).cell? ⟨g, i, none⟩ = #[u0, u1, u2, u3, u4, u5][i]? := by
  have := ((((((h.put 0 u0).put 1 u1).put 2 u2).put 3 u3).put 4 u4).put 5 u5).alloc o
  rw [six hc] at this
  exact this.cell
theorem TokAt.frame {w w' : World} {A : Option Addr} {l : List Tok} {rb : Nat} (h : TokAt w A l) (hF : Fr rb w.heap.size w w') (hne : ∀ g, A = some ⟨g, 0, none⟩ → g ≠ rb) : TokAt w' A l := fun hn => by
  obtain ⟨g, e, hg, ht⟩ := h hn
  have hr := hne g e
  have := hF.size
  refine ⟨g, e, by omega, fun i hi => ?_⟩
  obtain ⟨c0, c1, c2, c3⟩ := ht i hi
  exact ⟨(hF.cell (p := ⟨g, i * 4, none⟩) hg hr).trans c0, (hF.cell (p := ⟨g, i * 4 + 1, none⟩) hg hr).trans c1, (hF.cell (p := ⟨g, i * 4 + 2, none⟩) hg hr).trans c2, (hF.cell (p := ⟨g, i * 4 + 3, none⟩) hg hr).trans c3⟩
set_option maxHeartbeats 1000000 in
set_option maxRecDepth 100000 in
theorem of_any (s : ByteArray) (hs : (s.size : Int) ≤ 9223372036854775807) (w : World) (hT : Tabs w) (hE : Errs w) : Calls Tryz.prog 68 #[.string s] w (OfQ w (ofM s)) := by
  have R0 := Lib.hid (RowB.new w 38 zcc)
  have B0 := Lib.hid (bel1 w (.cells zcc 38))
  have CL := lext_any s hs (w.alloc (.cells zcc 38)) (Tabs.step hT B0.out) (hE.below B0.out)
  obtain ⟨o, hof⟩ : ∃ o, o = ofM s := ⟨_, rfl⟩
  rw [← hof]
  unfold ofM at hof
  unfold Lext at CL
  cases hx : lexR s with
  | bad er a =>
    rw [hx] at CL hof
    dsimp only at hof
    subst hof
    have CL := Lib.hid CL
    have hne := lexR_bad hx
    have h1 : (er == 0) = false := by rw [beq_eq_false_iff_ne]; exact hne
    have h2 : (er != 0) = true := by rw [bne_iff_ne]; exact hne
    clear hx hT hE
    go_enter Tryz.func68, Tryz.ntmps68
    go_wp2_with fail
    refine CL.out.mono ?_
    rintro e w1 ⟨hb, rfl⟩
    have B1 := Lib.hid (B0.out.trans (hb.mono (by simp)))
    have R1 := R0.out.below hb (by simp)
    have r1 := R1.cell
    have r2 := R1.thaw
    clear hb CL R1 R0 B0
    go_wp2
    refine bodyPost_ret (v := .tuple #[.slice none 0 0, nv0, .int .i64 er, .int .i64 a]) ?_ rfl ⟨below_put6 B1.out (Nat.le_refl _) _ _ _ _ _ _, rfl⟩
    simp [results, Tryz.results68, go_sem, r1]
    try first | rfl | exact ⟨rfl, rfl⟩
  | good l =>
    rw [hx] at CL hof
    have CL := Lib.hid CL
    have HOF := Lib.hid hof
    have HX := Lib.hid hx
    clear hx hT hE hof
    go_enter Tryz.func68, Tryz.ntmps68
    go_wp2_with fail
    refine CL.out.mono ?_
    rintro e w1 ⟨hb, A, c, rfl, hTA, hle, hc⟩
    have W := lexR_wf HX.out hle
    have HW := Lib.hid W
    have hpos := W.pos
    have hcc := hc hpos
    have B1 := Lib.hid (B0.out.trans (hb.mono (by simp)))
    have R1 := Lib.hid (R0.out.below hb (by simp))
    have HTA := Lib.hid hTA
    have CP := Lib.hid (parse_any l A c w1 hTA W hcc)
    have hsz : w.heap.size < w1.heap.size := by have := hb.size; simp at this; omega
    have HNE : Hid (∀ g, A = some ⟨g, 0, none⟩ → g ≠ w.heap.size) := fun g eg e => by
      obtain ⟨g', eg', _, ht⟩ := hTA hpos
      rw [eg] at eg'
      injection eg' with eg'
      injection eg' with eg'
      have h1 := (ht 0 hpos).2.2.1
      rw [← eg', e] at h1
      have h2 := R1.out.cell 2
      rw [show 0 * 4 + 2 = 2 from rfl, h2] at h1
      simp at h1
    clear hb CL R0 B0 hTA hc W HX
    go_wp2_with fail
    refine CP.out.mono ?_
    rintro e w2 ⟨hb, ho⟩
    have B2 := Lib.hid (B1.out.trans (hb.mono (by omega)))
    have R2 := Lib.hid (R1.out.below hb (by omega))
    have HTB := Lib.hid (HTA.out.below hb)
    have hsz2 : w.heap.size < w2.heap.size := by have := hb.size; omega
    clear hb CP R1 B1
    cases hp : parseM l with
    | bad er a =>
      rw [hp] at ho
      obtain ⟨rfl, hal⟩ := ho
      have her := parse_bad HW.out hp
      have HO : Hid (o = .bad er (atOf l a : Int)) := by
        unfold Hid
        rw [HOF.out, hp]
      have h1 : ((er : Int) == 0) = false := by rw [beq_eq_false_iff_ne]; omega
      have h2 : ((er : Int) != 0) = true := by rw [bne_iff_ne]; omega
      obtain ⟨g, eg, hg, ht⟩ := HTB.out hpos
      obtain ⟨_, c1, _, _⟩ := ht a hal
      have hat : atOf l a = l[a].at_ := by unfold atOf; rw [List.getElem?_eq_getElem hal]; rfl
      rw [← hat] at c1
      have hali : (a : Int) < (l.length : Int) := by omega
      have r1 := R2.out.cell
      have r2 := R2.out.thaw
      generalize atOf l a = at1 at *
      have hne := HNE.out g eg
      have hne2 : w.heap.size ≠ g := fun e => hne e.symm
      subst eg
      clear hp her ht hat HTA HTB
      go_wp2_with fail
      go_region
      all_goals
        go_wp2
        refine bodyPost_ret (v := .tuple #[.slice none 0 0, nv0, .int .i64 er, .int .i64 at1]) ?_ rfl ⟨((below_put6 B2.out (Nat.le_refl _) _ _ _ _ _ _).alloc (by simp [World.setCell]; omega) _).drew, by rw [HO.out]⟩
        have r7 := row6 R2.out rfl (.int .i64 0) (.int .i64 0) (.int .i64 0) (.string ⟨#[]⟩) (.int .i64 0) (.slice none 0 0) (.cells #[.int .i64 0, .int .i64 0, .int .i64 0, .string ⟨#[]⟩, .int .i64 0, .slice none 0 0] 38)
        simp [results, Tryz.results68, go_sem, r7]
    | ok h k =>
      rw [hp] at ho
      obtain ⟨A1, c1, rfl, hk⟩ := ho
      obtain ⟨x1, x2, x3, x4, x5⟩ := h
      have HK := Lib.hid hk
      have HO : Hid (o = .ok l ⟨x1, x2, x3, x4, x5⟩ k) := by
        unfold Hid
        rw [HOF.out, hp]
      have r1 := R2.out.cell
      have r2 := R2.out.thaw
      clear hk hp
      go_wp2_with fail
      go_region
      all_goals
        go_wp2
        refine bodyPost_ret (v := .tuple #[.slice A l.length c, nvv ⟨x1, x2, x3, x4, x5⟩ A1 k.len c1, .int .i64 0, .int .i64 0]) ?_ rfl ⟨((below_put6 B2.out (Nat.le_refl _) _ _ _ _ _ _).alloc (by simp [World.setCell]; omega) _).drew, by rw [HO.out]; exact ⟨A, c, A1, c1, rfl, TokAt.frame HTB.out (frame6 _ _ _ _ _ _ _ _ _) HNE.out, hcc, HK.out.keep (frame6 w2 w.heap.size _ _ _ _ _ _ _).size (fun g hg hl => ⟨(frame6 w2 w.heap.size _ _ _ _ _ _ _).block g hl (by omega), by omega⟩)⟩⟩
        have r7 := row6 R2.out rfl (.int .i64 x1) (.int .i64 x2) (.int .i64 x3) (.string x4) (.int .i64 x5) (.slice A1 k.len c1) (.cells (ncc ⟨x1, x2, x3, x4, x5⟩ A1 k.len c1) 38)
        simp [results, Tryz.results68, go_sem, r7]
end Pg
end Go.Proofs.YthjflofcgdfekaaGreatDoor
