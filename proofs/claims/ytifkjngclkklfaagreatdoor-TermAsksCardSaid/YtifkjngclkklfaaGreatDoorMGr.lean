/- Contracts: parse.Type: what it answers to any text. -/
import Derived.Test.YtifkjngclkklfaaGreatDoorMGq
import Derived.Test.YtifkjngclkklfaaGreatDoorMGp
import Derived.Test.YtifkjngclkklfaaGreatDoorMGh
import Derived.KernelRfl
import Derived.Test.YtifkjngclkklfaaGreatDoorZW
namespace Go.Proofs.YtifkjngclkklfaaGreatDoor
open Go.RowKit
namespace Pg
open Ps
/-- What Type answers. -/
inductive TypR where
  | ok (h : Hd) (k : Fo)
  | bad (e : Int)
def typeM (s : ByteArray) : TypR := match lexR s with
  | .bad e _ => .bad e
  | .good l => match ptypeM l with
    | .ok h k => .ok h k
    | .bad e _ => .bad (e : Int)
def TypQ (w : World) (o : TypR) (e : Ending) (w' : World) : Prop :=
  Below w.heap.size w w' ∧ match o with
    | .ok h k => ∃ A c, e = .returned (.tuple #[nvv h A k.len c, .int .i64 0]) ∧ KV w' (fun g => w.heap.size ≤ g) k A c
    | .bad er => e = .returned (.tuple #[nv0, .int .i64 er])

set_option maxHeartbeats 4000000 in
set_option maxRecDepth 100000 in
theorem type_any (s : ByteArray) (hs : (s.size : Int) ≤ 9223372036854775807) (w : World) (hT : Tabs w) (hE : Errs w) : Calls Tryz.prog 51 #[.string s] w (TypQ w (typeM s)) := by
  have R0 := Lib.hid (RowB.new w 71 zcc)
  have B0 := Lib.hid (bel1 w (.cells zcc 71))
  have CL := lext_any s hs (w.alloc (.cells zcc 71)) (Tabs.step hT B0.out) (hE.below B0.out)
  obtain ⟨o, hof⟩ : ∃ o, o = typeM s := ⟨_, rfl⟩
  rw [← hof]
  unfold typeM at hof
  unfold Lext at CL
  cases hx : lexR s with
  | bad er a =>
    rw [hx] at CL hof
    dsimp only at hof
    subst hof
    have CL := Lib.hid CL
    have hne := lexR_bad hx
    have h1 : (er == 0) = false := by rw [beq_eq_false_iff_ne]; exact hne
    have h2 : (er != 0) = true := by rw [bne_iff_ne]; exact hne
    clear hx hT hE
    go_enter Tryz.func51, Tryz.ntmps51
    go_wp2_with fail
    refine CL.out.mono ?_
    rintro e w1 ⟨hb, rfl⟩
    have B1 := Lib.hid (B0.out.trans (hb.mono (by simp)))
    have R1 := R0.out.below hb (by simp)
    have r1 := R1.cell
    have r2 := R1.thaw
    clear hb CL R1 R0 B0
    go_wp2
    refine bodyPost_ret (v := .tuple #[nv0, .int .i64 er]) ?_ rfl ⟨below_put6 B1.out (Nat.le_refl _) _ _ _ _ _ _, rfl⟩
    simp [results, Tryz.results51, go_sem, r1]
    try first | rfl | exact ⟨rfl, rfl⟩
  | good l =>
    rw [hx] at CL hof
    have CL := Lib.hid CL
    have HOF := Lib.hid hof
    have HX := Lib.hid hx
    clear hx hT hE hof
    go_enter Tryz.func51, Tryz.ntmps51
    go_wp2_with fail
    refine CL.out.mono ?_
    rintro e w1 ⟨hb, A, c, rfl, hTA, hle, hc⟩
    have W := lexR_wf HX.out hle
    have hpos := W.pos
    have hcc := hc hpos
    have hbs := hb.size
    have B1 := B0.out.trans (hb.mono (by simp))
    have R1 := Lib.hid ((R0.out.below hb (by simp)).alloc (.cells #[.slice A l.length c, .int .i64 0, .bool false, .int .i64 0] 100))
    have B2 := Lib.hid (B1.alloc B1.size (.cells #[.slice A l.length c, .int .i64 0, .bool false, .int .i64 0] 100))
    obtain ⟨q, hq, _⟩ := ty_some W.toWf
    have hpm : ptypeM l = wholeM l q := by unfold ptypeM; rw [hq]
    have hd := ty_deep' hq
    have hw := ty_wide' hq
    have R2 := RowB.new w1 100 #[.slice A l.length c, .int .i64 0, .bool false, .int .i64 0]
    have bz := bel1 w1 (.cells #[.slice A l.length c, .int .i64 0, .bool false, .int .i64 0] 100)
    have PS := PSt.new (B := w1.heap.size) hTA W hcc (Nat.le_refl _) bz R2
    have CW := Lib.hid (whole_q ⟨w1.heap.size, A, l, c⟩ (tyR ⟨w1.heap.size, A, l, c⟩ fuel) 77 (fun w => enter77 _ w) (ty_all _ fuel (by unfold fuel; omega)) _ q (by
      show tyM l fuel .kind (-1) 0 = _
      exact hq) (fun _ => ⟨hd, by omega⟩) PS)
    have HO : Hid (o = match wholeM l q with
      | .ok h k => .ok h k
      | .bad e _ => .bad (e : Int)) := by
      unfold Hid
      rw [HOF.out, ← hpm]
    have hsz : w.heap.size < w1.heap.size := by simp at hbs; omega
    clear hb hbs CL R0 B0 hTA hc HX R2 bz PS hq hpm hd hw W HOF B1
    generalize wholeM l q = oo at *
    go_wp2_with fail
    refine CW.out.mono ?_
    rintro e w3 ⟨hF, ho⟩
    have B3 := Lib.hid (B2.out.trans (Fr.below hF (B' := w.heap.size) (by simp; omega) (by dsimp only; omega)))
    have R3 := Lib.hid (hF.row R1.out (by simp; omega) (by dsimp only; omega))
    have hs3 : w1.heap.size < w3.heap.size := by have := hF.size; simp at this; omega
    clear B2 CW R1
    cases oo with
    | ok h k =>
      obtain ⟨A1, c1, rfl, hk⟩ := ho
      have HK : Hid (KV w3 (fun g => w1.heap.size + 1 ≤ g) k A1 c1) := hk.keep (Nat.le_refl _) (fun g hg _ => ⟨rfl, by simp at hg; omega⟩)
      obtain ⟨x1, x2, x3, x4, x5⟩ := h
      have HO' : Hid (o = .ok ⟨x1, x2, x3, x4, x5⟩ k) := HO.out
      clear hk hF HO
      have bz := bel1 w3 (.cells (ncc ⟨x1, x2, x3, x4, x5⟩ A1 k.len c1) 71)
      have B4 := Lib.hid (B3.out.alloc B3.out.size (.cells (ncc ⟨x1, x2, x3, x4, x5⟩ A1 k.len c1) 71))
      have R4 := Lib.hid (R3.out.below bz R3.out.lt)
      have Q4 := RowB.new w3 71 (ncc ⟨x1, x2, x3, x4, x5⟩ A1 k.len c1)
      have K4 := Lib.hid (HK.out.below bz)
      have r1 := R4.out.cell
      have r2 := R4.out.thaw
      have r3 := Q4.cell
      clear HK R3 B3 bz Q4
      go_wp2
      refine bodyPost_ret (v := .tuple #[nvv ⟨x1, x2, x3, x4, x5⟩ A1 k.len c1, .int .i64 0]) ?_ rfl ⟨below_put6 B4.out (Nat.le_refl _) _ _ _ _ _ _, by rw [HO'.out]; exact ⟨A1, c1, rfl, K4.out.keep (by simp [World.setCell]) (fun g hg _ => ⟨by iterate 6 rw [Below.heap_setCell _ _ _ _ (by dsimp only; omega)], by omega⟩)⟩⟩
      simp [results, Tryz.results51, go_sem, r1]
      try first | rfl | exact ⟨rfl, rfl⟩
    | bad er a =>
      obtain ⟨rfl, hal⟩ := ho
      have HO' : Hid (o = .bad (er : Int)) := HO.out
      clear hF HO
      have bz := bel1 w3 (.cells zcc 71)
      have B4 := Lib.hid (B3.out.alloc B3.out.size (.cells zcc 71))
      have R4 := Lib.hid (R3.out.below bz R3.out.lt)
      have Q4 := RowB.new w3 71 zcc
      have r1 := R4.out.cell
      have r2 := R4.out.thaw
      have r3 := Q4.cell
      clear R3 B3 bz Q4
      go_wp2
      refine bodyPost_ret (v := .tuple #[nv0, .int .i64 er]) ?_ rfl ⟨below_put6 B4.out (Nat.le_refl _) _ _ _ _ _ _, by rw [HO'.out]⟩
      simp [results, Tryz.results51, go_sem, r1]
      try first | rfl | exact ⟨rfl, rfl⟩
end Pg
end Go.Proofs.YtifkjngclkklfaaGreatDoor
/- Contracts: term.Parse, given what the node tells. -/
namespace Go.Proofs.YtifkjngclkklfaaGreatDoor
open Go.RowKit Go.Op
namespace Tm
open Ps Pg
/-- What a text is of. -/
noncomputable def parseT (s : ByteArray) : Int × Ty := match typeM s with
  | .bad e => (e, dyn)
  | .ok h k => ofEnd (node h k.len (tri k).2.1 (tri k).2.2)
set_option maxHeartbeats 8000000 in
set_option maxRecDepth 100000 in
theorem tparse_any (s : ByteArray) (hs : (s.size : Int) ≤ 9223372036854775807) (w : World) (hT : Tabs w) (hE : Errs w) (hne : ∀ er, typeM s = .bad er → er ≠ 0)
    (HO : ∀ h k, typeM s = .ok h k → (∀ (w' : World) (P' : Nat → Prop) (A : Option Addr) (cap : Nat), KV w' P' k A cap → Calls Tryz.prog 78 #[nvv h A k.len cap] w' (ToldQ (node h k.len (tri k).2.1 (tri k).2.2) w')) ∧ (node h k.len (tri k).2.1 (tri k).2.2).2.cnt ≤ 1000001) :
    Calls Tryz.prog 29 #[.string s] w (ToldQ (parseT s) w) := by
  have R0 := Lib.hid (RowB.new w 25 tzc)
  have B0 := Lib.hid (bel1 w (.cells tzc 25))
  have C := Lib.hid (type_any s hs (w.alloc (.cells tzc 25)) (Tabs.step hT B0.out) (hE.below B0.out))
  obtain ⟨q, hq⟩ : ∃ q, q = parseT s := ⟨_, rfl⟩
  rw [← hq]
  unfold parseT at hq
  cases hx : typeM s with
  | bad er =>
    rw [hx] at C hq
    have h0 := hne er hx
    have h1 : (er == 0) = false := by rw [beq_eq_false_iff_ne]; exact h0
    have h2 : (er != 0) = true := by rw [bne_iff_ne]; exact h0
    dsimp only at hq
    subst hq
    clear hx hT hE hne HO
    go_enter Tryz.func29, Tryz.ntmps29
    go_wp2_with fail
    refine C.out.mono ?_
    rintro e w1 ⟨hb, rfl⟩
    have Y0 := Lib.hid (R0.out.below hb R0.out.lt)
    have HB1 := Lib.hid (B0.out.trans (hb.mono B0.out.size))
    have Y1 := Lib.hid (Y0.out.alloc (.cells zcc 71))
    have y1 := Y1.out.cell
    have y1t := Y1.out.thaw
    have HB2 := Lib.hid (HB1.out.trans ((bel1 w1 (.cells zcc 71)).mono HB1.out.size))
    clear hb C
    go_wp2_with fail
    refine bodyPost_ret (v := .tuple #[tz, .int .i64 er]) ?_ rfl (ToldQ.none (below_put3 HB2.out (Nat.le_refl _) _ _ _))
    simp [results, Tryz.results29, go_sem, y1]
    try first | rfl | exact ⟨rfl, rfl⟩
  | ok h k =>
    rw [hx] at C hq
    obtain ⟨o1, o2⟩ := HO h k hx
    have HO1 := Lib.hid o1
    have HO2 := Lib.hid o2
    have HQ := Lib.hid hq
    clear hx hT hE hne HO o1 o2 hq
    go_enter Tryz.func29, Tryz.ntmps29
    go_wp2_with fail
    refine C.out.mono ?_
    rintro e w1 ⟨hb, A, c, rfl, hk⟩
    have Y0 := Lib.hid (R0.out.below hb R0.out.lt)
    have HB1 := Lib.hid (B0.out.trans (hb.mono B0.out.size))
    have b2 := bel1 w1 (.cells (ncc h A k.len c) 71)
    have Y1 := Lib.hid (Y0.out.alloc (.cells (ncc h A k.len c) 71))
    have R1 := Lib.hid (RowB.new w1 71 (ncc h A k.len c))
    have r1 := R1.out.cell
    have HB2 := Lib.hid (HB1.out.trans (b2.mono HB1.out.size))
    have hcof := tof_any _ h k _ A c (hk.below b2) _ (fun w' P' hh => HO1.out w' P' A c hh) HO2.out
    rw [← HQ.out] at hcof
    have CO := Lib.hid hcof
    have HS : Hid (w.heap.size < w1.heap.size) := Y0.out.lt
    clear hb C b2 hk hcof HQ
    go_wp2_with fail
    refine CO.out.mono ?_
    rintro e w2 ⟨An', cn', A', c', rfl, hti, hb3⟩
    have Y2 := Lib.hid (Y1.out.below hb3 Y1.out.lt)
    have y2 := Y2.out.cell
    have y2t := Y2.out.thaw
    have HB3 := Lib.hid (HB2.out.trans (hb3.mono HB2.out.size))
    have HTI := Lib.hid hti
    clear hti hb3 CO r1
    go_wp2_with fail
    refine bodyPost_ret (v := .tuple #[tv q.2 An' cn' A' c', .int .i64 q.1]) ?_ rfl ⟨An', cn', A', c', rfl, HTI.out.keep (by simp [World.setCell]) (fun g hg hl => ?_), below_put3 HB3.out (Nat.le_refl _) _ _ _⟩
    · simp [results, Tryz.results29, go_sem, y2]
      try first | rfl | exact ⟨rfl, rfl⟩
    · have h1 := HS.out
      have h2 : (w1.alloc (.cells (ncc h A k.len c) 71)).heap.size = w1.heap.size + 1 := by simp
      have hx : g ≠ w.heap.size := by omega
      exact ⟨(Below.heap_setCell _ _ _ g hx).trans ((Below.heap_setCell _ _ _ g hx).trans (Below.heap_setCell _ _ _ g hx)), by omega⟩
end Tm
end Go.Proofs.YtifkjngclkklfaaGreatDoor
/- Contracts: whether a type is small enough. -/
namespace Go.Proofs.YtifkjngclkklfaaGreatDoor
open Go.RowKit
namespace Tm
/-- How many parts have been counted, c so far. -/
def sumL (f : Int → Ty → Int) (most : Int) : Int → List Ty → Int
  | c, [] => c
  | c, p :: ps => if c ≤ most then sumL f most (c + f (most - c) p) ps else c
def sizeF : Nat → Int → Ty → Int
  | 0, most, _ => most + 1
  | d + 1, most, t => if (t.names.length : Int) > most then most + 1 else sumL (sizeF d) most 1 t.parts
theorem sumL_take {f : Int → Ty → Int} {most : Int} : ∀ {l : List Ty} {c : Int} {i : Nat} {t : Ty}, l[i]? = some t → sumL f most c (l.take i) ≤ most → sumL f most c (l.take (i + 1)) = sumL f most c (l.take i) + f (most - sumL f most c (l.take i)) t
  | [], c, i, t, h, _ => by simp at h
  | a :: l, c, 0, t, h, hc => by
    obtain rfl : a = t := by simpa using h
    simp only [List.take_zero, sumL] at hc
    simp [sumL, hc]
  | a :: l, c, i + 1, t, h, hc => by
    rw [List.take_succ_cons] at hc
    rw [List.take_succ_cons, List.take_succ_cons]
    by_cases hm : c ≤ most
    · rw [sumL, if_pos hm] at hc
      rw [sumL, if_pos hm, sumL, if_pos hm]
      exact sumL_take (by simpa using h) hc
    · rw [sumL, if_neg hm] at hc
      exact absurd hc hm
theorem sumL_stop {f : Int → Ty → Int} {most : Int} : ∀ {l : List Ty} {c : Int} {i : Nat}, ¬ sumL f most c (l.take i) ≤ most → sumL f most c l = sumL f most c (l.take i)
  | [], c, i, _ => by simp
  | a :: l, c, 0, h => by
    simp only [List.take_zero, sumL] at h ⊢
    rw [if_neg h]
  | a :: l, c, i + 1, h => by
    rw [List.take_succ_cons] at h ⊢
    by_cases hm : c ≤ most
    · rw [sumL, if_pos hm] at h
      rw [sumL, if_pos hm, sumL, if_pos hm]
      exact sumL_stop h
    · rw [sumL, if_neg hm, sumL, if_neg hm]
theorem sumL_ge {f : Int → Ty → Int} {most : Int} : ∀ {l : List Ty} {c : Int}, (∀ p ∈ l, ∀ k, 0 ≤ k → 0 ≤ f k p) → c ≤ sumL f most c l
  | [], c, _ => by simp [sumL]
  | a :: l, c, h => by
    rw [sumL]
    split
    · have h1 := sumL_ge (f := f) (most := most) (l := l) (c := c + f (most - c) a) fun p hp => h p (List.mem_cons_of_mem _ hp)
      have h2 := h a List.mem_cons_self (most - c) (by omega)
      omega
    · omega
/-- What size says lies between 1 and one more than most. -/
theorem size_bounds : ∀ (d : Nat) (most : Int) (t : Ty), 0 ≤ most → 1 ≤ sizeF d most t ∧ sizeF d most t ≤ most + 1
  | 0, most, t, h => by rw [sizeF]; omega
  | d + 1, most, t, h => by
    rw [sizeF]
    split
    · omega
    · have key : ∀ (l : List Ty) (c : Int), 1 ≤ c → c ≤ most + 1 → 1 ≤ sumL (sizeF d) most c l ∧ sumL (sizeF d) most c l ≤ most + 1 := by
        intro l
        induction l with
        | nil => intro c h1 h2; rw [sumL]; exact ⟨h1, h2⟩
        | cons a l ih =>
          intro c h1 h2
          rw [sumL]
          split
          · have := size_bounds d (most - c) a (by omega)
            exact ih _ (by omega) (by omega)
          · exact ⟨h1, h2⟩
      exact key _ 1 (by omega) (by omega)
/-- What is small is small. -/
theorem size_cnt : ∀ (d : Nat) (most : Int) (t : Ty), 0 ≤ most → sizeF d most t ≤ most → (t.cnt : Int) ≤ sizeF d most t * (most + 1) ∧ t.depth ≤ d
  | 0, most, t, _, h => by rw [sizeF] at h; omega
  | d + 1, most, t, h0, h => by
    obtain ⟨k, ns, ps⟩ := t
    rw [sizeF, names_mk, parts_mk] at h
    rw [sizeF, names_mk, parts_mk]
    split at h
    · omega
    · rename_i hn
      rw [if_neg hn]
      have key : ∀ (l : List Ty) (c : Int), 1 ≤ c → sumL (sizeF d) most c l ≤ most → (cntL l : Int) + c * (most + 1) ≤ sumL (sizeF d) most c l * (most + 1) ∧ depthL l ≤ d := by
        intro l
        induction l with
        | nil => intro c _ _; simp [sumL, cntL, depthL]
        | cons a l ih =>
          intro c h1 h2
          rw [sumL] at h2 ⊢
          split at h2
          · rename_i hc
            rw [if_pos hc]
            have hge : c + sizeF d (most - c) a ≤ most := by
              have := sumL_ge (f := sizeF d) (most := most) (l := l) (c := c + sizeF d (most - c) a) (fun p _ k hk => by have := size_bounds d k p hk; omega)
              omega
            have b1 := size_bounds d (most - c) a (by omega)
            obtain ⟨i1, i2⟩ := size_cnt d (most - c) a (by omega) (by omega)
            obtain ⟨j1, j2⟩ := ih _ (by omega) h2
            rw [cntL, depthL]
            refine ⟨?_, by omega⟩
            have e1 : sizeF d (most - c) a * (most - c + 1) ≤ sizeF d (most - c) a * (most + 1) := Int.mul_le_mul_of_nonneg_left (by omega) (by omega)
            have e2 : (c + sizeF d (most - c) a) * (most + 1) = c * (most + 1) + sizeF d (most - c) a * (most + 1) := Int.add_mul _ _ _
            push_cast
            omega
          · omega
      obtain ⟨k1, k2⟩ := key ps 1 (by omega) h
      rw [Ty.cnt, Ty.depth]
      refine ⟨?_, by omega⟩
      push_cast
      omega
def Ty.light (t : Ty) : Bool := decide (sizeF 30 200 t ≤ 200)
theorem light_cnt {t : Ty} (h : t.light = true) : t.cnt ≤ 41000 ∧ t.depth ≤ 30 := by
  have h := of_decide_eq_true h
  obtain ⟨h1, h2⟩ := size_cnt 30 200 t (by omega) h
  refine ⟨?_, h2⟩
  have : sizeF 30 200 t * (200 + 1) ≤ 200 * (200 + 1) := Int.mul_le_mul_of_nonneg_right h (by omega)
  omega

set_option maxHeartbeats 4000000 in
set_option maxRecDepth 100000 in
theorem size_step (dp : Nat) (hdp : dp ≤ 1000)
    (IH : ∀ (t : Ty) (most : Int), 0 ≤ most → most ≤ 100000 → ∀ (w : World) (P : Nat → Prop) (An : Option Addr) (cn : Nat) (A : Option Addr) (c : Nat), TI w P t An cn A c → Calls Tryz.prog 58 #[tv t An cn A c, .int .i64 most, .int .i64 (dp : Int)] w fun e w' => e = .returned (.int .i64 (sizeF dp most t)) ∧ Below w.heap.size w w')
    (most : Int) (h0 : 0 ≤ most) (h1 : most ≤ 100000) (w : World) (P : Nat → Prop) (k : Int) (ns : List ByteArray) (ps : List Ty) (An : Option Addr) (cn : Nat) (A : Option Addr) (c : Nat) (h : TV w P ps A c) (r : Int) (hr : r = sizeF (dp + 1) most (.mk k ns ps)) (dq : Nat) (hdq : dq = dp + 1) :
    Calls Tryz.prog 58 #[.agg #[.int .i64 k, .slice An ns.length cn, .slice A ps.length c], .int .i64 most, .int .i64 (dq : Int)] w fun e w' => e = .returned (.int .i64 r) ∧ Below w.heap.size w w' := by
  obtain ⟨m, hm⟩ : ∃ m, m = ns.length := ⟨_, rfl⟩
  obtain ⟨n, hn⟩ : ∃ n, n = ps.length := ⟨_, rfl⟩
  rw [sizeF, names_mk, parts_mk, ← hm] at hr
  rw [← hm, ← hn]
  have HK := Lib.hid (h.below (bel1 w (.cells #[.int .i64 k, .slice An m cn, .slice A n c] 25)))
  have R0 := Lib.hid (RowB.new w 25 #[.int .i64 k, .slice An m cn, .slice A n c])
  have B0 := Lib.hid (bel1 w (.cells #[.int .i64 k, .slice An m cn, .slice A n c] 25))
  have HI := Lib.hid IH
  have HN := Lib.hid hn
  have HR := Lib.hid hr
  have rc := R0.out.cell
  have d1 : ((dq : Int) == 0) = false := by rw [beq_eq_false_iff_ne]; omega
  have HDQ := Lib.hid hdq
  clear h IH hn hm hr hdq
  by_cases hmm : (m : Int) > most
  · have HF : Hid (r = most + 1) := by unfold Hid; rw [HR.out, if_pos hmm]
    have e1 : IntKind.i64.wrap (most + 1) = most + 1 := by rw [IntKind.wrap_i64]; omega
    go_enter Tryz.func58, Tryz.ntmps58
    go_wp2_with fail
    (first | go_ret | go_ret2)
    exact ⟨by rw [HF.out]; rfl, B0.out⟩
  have HF : Hid (r = sumL (sizeF dp) most 1 ps) := by unfold Hid; rw [HR.out, if_neg hmm]
  go_enter Tryz.func58, Tryz.ntmps58
  go_wp2_with fail
  obtain ⟨W, hW⟩ : ∃ W, W = w.alloc (.cells #[.int .i64 k, .slice An m cn, .slice A n c] 25) := ⟨_, rfl⟩
  rw [← hW] at HK R0 B0 rc ⊢
  clear hW rc HR
  go_loopg [7, 8] (200001) (fun kx s7 s8 wr => ∃ (i : Nat) (d : Int), s7 = .int .i64 d ∧ s8 = .int .i64 i ∧ 200001 - i ≤ kx ∧ i ≤ n ∧ 1 ≤ d ∧ d ≤ most + 1 ∧ (i : Int) + 1 ≤ d ∧ Hid (d = sumL (sizeF dp) most 1 (ps.take i)) ∧ Hid (Below W.heap.size W wr))
  case atStart => exact ⟨0, 1, rfl, rfl, by omega, by omega, by omega, by omega, by omega, by simp [Hid, sumL], Below.refl _ _⟩
  case round =>
    obtain ⟨i, d, rfl, rfl, hkx, hin, hd1, hd2, hid, HDD, HB⟩ := hrel
    have R1 := Lib.hid (R0.out.below HB.out R0.out.lt)
    have rc := R1.out.cell
    by_cases hi : i < n
    · have hil : (i : Int) < (n : Int) := by omega
      by_cases hdm : d ≤ most
      · obtain ⟨t, e⟩ := get_of_lt (l := ps) (i := i) (by rw [← HN.out]; exact hi)
        obtain ⟨g, o, An2, cn2, A2, c2, hA, hP, hg, hti, z0, z1, z2⟩ := (HK.out.below HB.out).nth e
        have CC := Lib.hid (HI.out t (most - d) (by omega) (by omega) wr P An2 cn2 A2 c2 hti)
        have HT : Hid (sumL (sizeF dp) most 1 (ps.take (i + 1)) = d + sizeF dp (most - d) t) := by
          have := sumL_take (f := sizeF dp) (most := most) (c := 1) e (by rw [← HDD.out]; exact hdm)
          unfold Hid
          rw [this, ← HDD.out]
        have bd := size_bounds dp (most - d) t (by omega)
        obtain ⟨q, hq⟩ : ∃ q, q = sizeF dp (most - d) t := ⟨_, rfl⟩
        rw [← hq] at CC HT bd
        obtain ⟨b1, b2⟩ := bd
        subst hA
        obtain ⟨j, hj⟩ : ∃ j, j = i + 1 := ⟨_, rfl⟩
        have e1 : IntKind.i64.wrap (most - d) = most - d := by rw [IntKind.wrap_i64]; omega
        have e2 : IntKind.i64.wrap ((dq : Int) - 1) = (dp : Int) := by have := HDQ.out; rw [IntKind.wrap_i64]; omega
        have e3 : IntKind.i64.wrap (d + q) = d + q := by rw [IntKind.wrap_i64]; omega
        obtain ⟨kt, nt, pt⟩ := t
        simp only [kind_mk, names_mk, parts_mk] at z0 z1 z2 CC
        clear e hti hq
        go_wp2_with fail
        refine CC.out.mono ?_
        rintro e w2 ⟨rfl, h2⟩
        have HB2 := Lib.hid (HB.out.trans (h2.mono HB.out.size))
        clear h2 CC z0 z1 z2 rc
        go_wp2_with fail
        go_roundg (200001 - j)
        case measure => omega
        case rel => exact ⟨j, d + q, by first | rfl | simp, by rw [hj]; go_num, by omega, by omega, by omega, by omega, by omega, by rw [hj]; exact HT.out.symm, HB2.out⟩
      · go_wp2_with fail
        (first | go_ret | go_ret2)
        refine ⟨?_, B0.out.trans (HB.out.mono B0.out.size)⟩
        have h1 := HDD.out
        rw [HF.out, sumL_stop (i := i) (by rw [← h1]; omega), ← h1]
        rfl
    · have hil : ¬ (i : Int) < (n : Int) := by omega
      go_wp2_with fail
      (first | go_ret | go_ret2)
      refine ⟨?_, B0.out.trans (HB.out.mono B0.out.size)⟩
      have h1 := HDD.out
      rw [List.take_of_length_le (by rw [← HN.out]; omega)] at h1
      rw [HF.out, ← h1]
      rfl
set_option maxHeartbeats 4000000 in
set_option maxRecDepth 100000 in
theorem size_any : ∀ (d : Nat), d ≤ 1000 → ∀ (t : Ty) (most : Int), 0 ≤ most → most ≤ 100000 → ∀ (w : World) (P : Nat → Prop) (An : Option Addr) (cn : Nat) (A : Option Addr) (c : Nat), TI w P t An cn A c → Calls Tryz.prog 58 #[tv t An cn A c, .int .i64 most, .int .i64 (d : Int)] w fun e w' => e = .returned (.int .i64 (sizeF d most t)) ∧ Below w.heap.size w w'
  | 0, _, .mk k ns ps, most, h0, h1, w, P, An, cn, A, c, h => by
    have e1 : IntKind.i64.wrap (most + 1) = most + 1 := by rw [IntKind.wrap_i64]; omega
    have B0 := Lib.hid (bel1 w (.cells #[.int .i64 k, .slice An ns.length cn, .slice A ps.length c] 25))
    clear h
    simp only [sizeF]
    go_enter Tryz.func58, Tryz.ntmps58
    go_wp2_with fail
    (first | go_ret | go_ret2)
    exact ⟨rfl, B0.out⟩
  | d + 1, hd, .mk k ns ps, most, h0, h1, w, P, An, cn, A, c, h => size_step d (by omega) (fun t most h0 h1 => size_any d (by omega) t most h0 h1) most h0 h1 w P k ns ps An cn A c (TI_iff.1 h).2 _ rfl (d + 1) rfl

set_option maxHeartbeats 2000000 in
set_option maxRecDepth 100000 in
theorem small_any (w : World) (t : Ty) (P : Nat → Prop) (An : Option Addr) (cn : Nat) (A : Option Addr) (c : Nat) (h : TI w P t An cn A c) :
    Calls Tryz.prog 39 #[tv t An cn A c, .int .i64 200, .int .i64 30] w fun e w' => e = .returned (.bool t.light) ∧ Below w.heap.size w w' := by
  have B0 := Lib.hid (bel1 w (.cells #[.int .i64 t.kind, .slice An t.names.length cn, .slice A t.parts.length c] 25))
  have R0 := Lib.hid (RowB.new w 25 #[.int .i64 t.kind, .slice An t.names.length cn, .slice A t.parts.length c])
  have rc := R0.out.cell
  have C := Lib.hid (size_any 30 (by omega) t 200 (by omega) (by omega) _ P An cn A c (h.below B0.out))
  obtain ⟨q, hq⟩ : ∃ q, q = sizeF 30 200 t := ⟨_, rfl⟩
  have HL : Hid (t.light = decide (q ≤ 200)) := by unfold Hid Ty.light; rw [hq]
  rw [← hq] at C
  rw [HL.out]
  clear h hq HL
  obtain ⟨k, ns, ps⟩ := t
  simp only [kind_mk, names_mk, parts_mk] at C rc B0 R0 ⊢
  go_enter Tryz.func39, Tryz.ntmps39
  go_wp2_with fail
  refine C.out.mono ?_
  rintro e w1 ⟨rfl, h1⟩
  have HB := Lib.hid (B0.out.trans (h1.mono B0.out.size))
  clear h1 C rc
  go_wp2_with fail
  (first | go_ret | go_ret2)
  exact ⟨rfl, HB.out⟩
set_option maxHeartbeats 2000000 in
set_option maxRecDepth 100000 in
theorem light_any (w : World) (t : Ty) (P : Nat → Prop) (An : Option Addr) (cn : Nat) (A : Option Addr) (c : Nat) (h : TI w P t An cn A c) :
    Calls Tryz.prog 12 #[tv t An cn A c] w fun e w' => e = .returned (.bool t.light) ∧ Below w.heap.size w w' := by
  have B0 := Lib.hid (bel1 w (.cells #[.int .i64 t.kind, .slice An t.names.length cn, .slice A t.parts.length c] 25))
  have R0 := Lib.hid (RowB.new w 25 #[.int .i64 t.kind, .slice An t.names.length cn, .slice A t.parts.length c])
  have rc := R0.out.cell
  have C := Lib.hid (small_any _ t P An cn A c (h.below B0.out))
  generalize t.light = b at *
  clear h
  obtain ⟨k, ns, ps⟩ := t
  simp only [kind_mk, names_mk, parts_mk] at C rc B0 R0 ⊢
  go_enter Tryz.func12, Tryz.ntmps12
  go_wp2_with fail
  refine C.out.mono ?_
  rintro e w1 ⟨rfl, h1⟩
  have HB := Lib.hid (B0.out.trans (h1.mono B0.out.size))
  clear h1 C rc
  go_wp2_with fail
  (first | go_ret | go_ret2)
  exact ⟨rfl, HB.out⟩
end Tm
end Go.Proofs.YtifkjngclkklfaaGreatDoor
/- Contracts: law10's example. -/
namespace Go.Proofs.YtifkjngclkklfaaGreatDoor
open Go.RowKit Go.Op
namespace Tm
open Ps Pg
theorem parse_case (S : ByteArray) (hs : (S.size : Int) ≤ 9223372036854775807) (H : Hd) (K : Fo) (T : Ty) (e : typeM S = .ok H K) (hf : fok (.cons H K .nil)) (hn : noFn (.cons H K .nil)) (hv : node H K.len (tri K).2.1 (tri K).2.2 = (0, T)) (hd : T.depth ≤ 12) (hc : T.cnt ≤ 1000001)
    (w : World) (hT : Tabs w) (hE : Errs w) : Calls Tryz.prog 29 #[.string S] w (ToldQ (0, T) w) := by
  have h := tparse_any S hs w hT hE (fun er h => by rw [e] at h; cases h) (fun h k hk => by
    rw [e] at hk
    injection hk with e1 e2
    subst e1 e2
    refine ⟨fun w' P' A cap hk => (told_plain _ hf hn).1 0 H K .nil rfl w' P' A cap hk, by rw [hv]; exact hc⟩)
  have hp : parseT S = (0, T) := by
    unfold parseT
    rw [e]
    dsimp only
    rw [hv]
    unfold ofEnd
    rw [if_neg]
    intro h
    have := h.2
    simp only at this
    omega
  rw [hp] at h
  exact h
def bA : ByteArray := ⟨#[97]⟩
def bB : ByteArray := ⟨#[98]⟩
def s1 : ByteArray := ⟨#[123, 97, 58, 32, 105, 110, 116, 44, 32, 98, 58, 32, 115, 116, 114, 125]⟩
def s2 : ByteArray := ⟨#[123, 98, 58, 32, 100, 121, 110, 125]⟩
def s3 : ByteArray := ⟨#[123, 98, 58, 32, 115, 116, 114, 125]⟩
def s4 : ByteArray := ⟨#[123, 97, 58, 32, 105, 110, 116, 125]⟩
def tI : Ty := .mk 1 [] []
def tS : Ty := .mk 2 [] []
def k1 : Fo := .cons ⟨33, 1, 4, bA, 1⟩ (.cons ⟨29, 3, 4, e0, 0⟩ .nil .nil) (.cons ⟨33, 5, 8, bB, 5⟩ (.cons ⟨30, 7, 8, e0, 0⟩ .nil .nil) .nil)
def k2 : Fo := .cons ⟨33, 1, 4, bB, 1⟩ (.cons ⟨31, 3, 4, e0, 0⟩ .nil .nil) .nil
def k3 : Fo := .cons ⟨33, 1, 4, bB, 1⟩ (.cons ⟨30, 3, 4, e0, 0⟩ .nil .nil) .nil
def k4 : Fo := .cons ⟨33, 1, 4, bA, 1⟩ (.cons ⟨29, 3, 4, e0, 0⟩ .nil .nil) .nil
theorem m1 : typeM s1 = .ok ⟨32, 0, 9, e0, 0⟩ k1 := by kernel_rfl
theorem m2 : typeM s2 = .ok ⟨32, 0, 5, e0, 0⟩ k2 := by kernel_rfl
theorem m3 : typeM s3 = .ok ⟨32, 0, 5, e0, 0⟩ k3 := by kernel_rfl
theorem m4 : typeM s4 = .ok ⟨32, 0, 5, e0, 0⟩ k4 := by kernel_rfl
theorem sz0 : e0.size ≤ 140737488351232 := by decide
theorem szA : bA.size ≤ 140737488351232 := by decide
theorem szB : bB.size ≤ 140737488351232 := by decide
theorem n1 (a b : Nat) : node ⟨32, a, b, e0, 0⟩ 2 (tri k1).2.1 (tri k1).2.2 = (0, .mk 3 [bA, bB] [tI, tS]) := by
  have h : (tri k1).2.1 = (0, [bA, bB], [tI, tS]) := by
    simp [k1, tri, recStep, node, Fo.len, tI, tS]
  unfold node
  rw [if_neg (by simp), if_neg (by simp), if_neg (by simp), if_pos rfl, h]
  unfold recEnd
  rw [if_neg (by simp), if_pos (by decide), mkRec_eq (isRec_self (by kernel_rfl) rfl)]
theorem n2 (a b : Nat) : node ⟨32, a, b, e0, 0⟩ 1 (tri k2).2.1 (tri k2).2.2 = (0, .mk 3 [bB] [dyn]) := by
  have h : (tri k2).2.1 = (0, [bB], [dyn]) := by
    simp [k2, tri, recStep, node, Fo.len]
  unfold node
  rw [if_neg (by simp), if_neg (by simp), if_neg (by simp), if_pos rfl, h]
  unfold recEnd
  rw [if_neg (by simp), if_pos (by decide), mkRec_eq (isRec_self (by kernel_rfl) rfl)]
theorem n3 (a b : Nat) : node ⟨32, a, b, e0, 0⟩ 1 (tri k3).2.1 (tri k3).2.2 = (0, .mk 3 [bB] [tS]) := by
  have h : (tri k3).2.1 = (0, [bB], [tS]) := by
    simp [k3, tri, recStep, node, Fo.len, tS]
  unfold node
  rw [if_neg (by simp), if_neg (by simp), if_neg (by simp), if_pos rfl, h]
  unfold recEnd
  rw [if_neg (by simp), if_pos (by decide), mkRec_eq (isRec_self (by kernel_rfl) rfl)]
theorem n4 (a b : Nat) : node ⟨32, a, b, e0, 0⟩ 1 (tri k4).2.1 (tri k4).2.2 = (0, .mk 3 [bA] [tI]) := by
  have h : (tri k4).2.1 = (0, [bA], [tI]) := by
    simp [k4, tri, recStep, node, Fo.len, tI]
  unfold node
  rw [if_neg (by simp), if_neg (by simp), if_neg (by simp), if_pos rfl, h]
  unfold recEnd
  rw [if_neg (by simp), if_pos (by decide), mkRec_eq (isRec_self (by kernel_rfl) rfl)]
theorem fl12 : flows (.mk 3 [bA, bB] [tI, tS]) (.mk 3 [bB] [dyn]) = true := by kernel_rfl
theorem fl34 : flows (.mk 3 [bB] [tS]) (.mk 3 [bA] [tI]) = false := by kernel_rfl
theorem c1 (w : World) (hT : Tabs w) (hE : Errs w) : Calls Tryz.prog 29 #[.string s1] w (ToldQ (0, .mk 3 [bA, bB] [tI, tS]) w) :=
  parse_case s1 (by decide) _ k1 _ m1 (by simp [fok, k1, Fo.len, sz0, szA, szB]) (by simp [noFn, k1]) (n1 0 9) (by decide) (by decide) w hT hE
theorem c2 (w : World) (hT : Tabs w) (hE : Errs w) : Calls Tryz.prog 29 #[.string s2] w (ToldQ (0, .mk 3 [bB] [dyn]) w) :=
  parse_case s2 (by decide) _ k2 _ m2 (by simp [fok, k2, Fo.len, sz0, szB]) (by simp [noFn, k2]) (n2 0 5) (by decide) (by decide) w hT hE
theorem c3 (w : World) (hT : Tabs w) (hE : Errs w) : Calls Tryz.prog 29 #[.string s3] w (ToldQ (0, .mk 3 [bB] [tS]) w) :=
  parse_case s3 (by decide) _ k3 _ m3 (by simp [fok, k3, Fo.len, sz0, szB]) (by simp [noFn, k3]) (n3 0 5) (by decide) (by decide) w hT hE
theorem c4 (w : World) (hT : Tabs w) (hE : Errs w) : Calls Tryz.prog 29 #[.string s4] w (ToldQ (0, .mk 3 [bA] [tI]) w) :=
  parse_case s4 (by decide) _ k4 _ m4 (by simp [fok, k4, Fo.len, sz0, szA]) (by simp [noFn, k4]) (n4 0 5) (by decide) (by decide) w hT hE
end Tm
end Go.Proofs.YtifkjngclkklfaaGreatDoor
/- Contracts: law10's example, walked. -/
namespace Go.Proofs.YtifkjngclkklfaaGreatDoor
open Go.RowKit Go.Op
namespace Tm
abbrev tcc (t : Ty) (An : Option Addr) (cn : Nat) (A : Option Addr) (c : Nat) : Array Value := #[.int .i64 t.kind, .slice An t.names.length cn, .slice A t.parts.length c]
set_option maxHeartbeats 8000000 in
set_option maxRecDepth 100000 in
theorem awake_gen (S1 S2 S3 S4 : ByteArray) (T1 T2 T3 T4 : Ty) (hS1 : S1 = s1) (hS2 : S2 = s2) (hS3 : S3 = s3) (hS4 : S4 = s4)
    (C1 : ∀ w, Tabs w → Errs w → Calls Tryz.prog 29 #[.string S1] w (ToldQ (0, T1) w)) (C2 : ∀ w, Tabs w → Errs w → Calls Tryz.prog 29 #[.string S2] w (ToldQ (0, T2) w))
    (C3 : ∀ w, Tabs w → Errs w → Calls Tryz.prog 29 #[.string S3] w (ToldQ (0, T3) w)) (C4 : ∀ w, Tabs w → Errs w → Calls Tryz.prog 29 #[.string S4] w (ToldQ (0, T4) w))
    (F1 : flows T1 T2 = true) (F2 : flows T3 T4 = false) (hr : T1.right = true ∧ T2.right = true ∧ T3.right = true ∧ T4.right = true) (hc : T1.cnt ≤ 1000001 ∧ T2.cnt ≤ 1000001 ∧ T3.cnt ≤ 1000001 ∧ T4.cnt ≤ 1000001)
    (w : World) (hT : Tabs w) (hE : Errs w) : Calls Tryz.prog 31 #[] w fun e w' => e = .returned (.bool true) ∧ Below w.heap.size w w' := by
  have D1 := Lib.hid (C1 w hT hE)
  have HT := Lib.hid hT
  have HE := Lib.hid hE
  have HC2 := Lib.hid C2
  have HC3 := Lib.hid C3
  have HC4 := Lib.hid C4
  have HF1 := Lib.hid F1
  have HF2 := Lib.hid F2
  have HR := Lib.hid hr
  have HC := Lib.hid hc
  clear C1 C2 C3 C4 hT hE F1 F2 hr hc
  go_enter Tryz.func31, Tryz.ntmps31
  simp only [← show s1 = (⟨#[123, 97, 58, 32, 105, 110, 116, 44, 32, 98, 58, 32, 115, 116, 114, 125]⟩ : ByteArray) from rfl, ← show s2 = (⟨#[123, 98, 58, 32, 100, 121, 110, 125]⟩ : ByteArray) from rfl, ← show s3 = (⟨#[123, 98, 58, 32, 115, 116, 114, 125]⟩ : ByteArray) from rfl, ← show s4 = (⟨#[123, 97, 58, 32, 105, 110, 116, 125]⟩ : ByteArray) from rfl]
  rw [← hS1, ← hS2, ← hS3, ← hS4]
  clear hS1 hS2 hS3 hS4
  go_wp2_with fail
  refine D1.out.mono ?_
  rintro e w1 ⟨An1, cn1, A1, c1, rfl, ht1, hb1⟩
  have B1 := Lib.hid (hb1.trans ((bel1 w1 (.cells (tcc T1 An1 cn1 A1 c1) 25)).mono hb1.size))
  have R1 := Lib.hid (RowB.new w1 25 (tcc T1 An1 cn1 A1 c1))
  have I1 := Lib.hid (ht1.below (bel1 w1 (.cells (tcc T1 An1 cn1 A1 c1) 25)))
  have D2 := Lib.hid (HC2.out _ (Tabs.step HT.out B1.out) (HE.out.below B1.out))
  clear ht1 hb1 D1 HC2
  go_wp2_with fail
  obtain ⟨V1, hV1⟩ : ∃ V1, V1 = w1.alloc (.cells (tcc T1 An1 cn1 A1 c1) 25) := ⟨_, rfl⟩
  obtain ⟨g1, hg1⟩ : ∃ g1, g1 = w1.heap.size := ⟨_, rfl⟩
  rw [← hV1] at B1 R1 I1 D2 ⊢
  rw [← hg1] at R1 ⊢
  clear hV1 hg1
  refine D2.out.mono ?_
  rintro e w2 ⟨An2, cn2, A2, c2, rfl, ht2, hb2⟩
  have b2 := bel1 w2 (.cells (tcc T2 An2 cn2 A2 c2) 25)
  have b2' := hb2.trans (b2.mono hb2.size)
  have B2 := Lib.hid (B1.out.trans (b2'.mono B1.out.size))
  have R12 := Lib.hid (R1.out.below b2' R1.out.lt)
  have R2 := Lib.hid (RowB.new w2 25 (tcc T2 An2 cn2 A2 c2))
  have I12 := Lib.hid (I1.out.below b2')
  have I2 := Lib.hid (ht2.below b2)
  have D3 := Lib.hid (HC3.out _ (Tabs.step HT.out B2.out) (HE.out.below B2.out))
  clear ht2 hb2 D2 HC3 b2 b2' R1 I1
  go_wp2_with fail
  obtain ⟨V2, hV2⟩ : ∃ V2, V2 = w2.alloc (.cells (tcc T2 An2 cn2 A2 c2) 25) := ⟨_, rfl⟩
  obtain ⟨g2, hg2⟩ : ∃ g2, g2 = w2.heap.size := ⟨_, rfl⟩
  rw [← hV2] at B2 R2 R12 I12 I2 D3 ⊢
  rw [← hg2] at R2 ⊢
  clear hV2 hg2
  refine D3.out.mono ?_
  rintro e w3 ⟨An3, cn3, A3, c3, rfl, ht3, hb3⟩
  have b3 := bel1 w3 (.cells (tcc T3 An3 cn3 A3 c3) 25)
  have b3' := hb3.trans (b3.mono hb3.size)
  have B3 := Lib.hid (B2.out.trans (b3'.mono B2.out.size))
  have R13 := Lib.hid (R12.out.below b3' R12.out.lt)
  have R23 := Lib.hid (R2.out.below b3' R2.out.lt)
  have R3 := Lib.hid (RowB.new w3 25 (tcc T3 An3 cn3 A3 c3))
  have I13 := Lib.hid (I12.out.below b3')
  have I23 := Lib.hid (I2.out.below b3')
  have I3 := Lib.hid (ht3.below b3)
  have D4 := Lib.hid (HC4.out _ (Tabs.step HT.out B3.out) (HE.out.below B3.out))
  clear ht3 hb3 D3 HC4 b3 b3' R12 R2 I12 I2
  go_wp2_with fail
  obtain ⟨V3, hV3⟩ : ∃ V3, V3 = w3.alloc (.cells (tcc T3 An3 cn3 A3 c3) 25) := ⟨_, rfl⟩
  obtain ⟨g3, hg3⟩ : ∃ g3, g3 = w3.heap.size := ⟨_, rfl⟩
  rw [← hV3] at B3 R3 R13 R23 I13 I23 I3 D4 ⊢
  rw [← hg3] at R3 ⊢
  clear hV3 hg3
  refine D4.out.mono ?_
  rintro e w4 ⟨An4, cn4, A4, c4, rfl, ht4, hb4⟩
  have b4 := bel1 w4 (.cells (tcc T4 An4 cn4 A4 c4) 25)
  have b4' := hb4.trans (b4.mono hb4.size)
  have B4 := Lib.hid (B3.out.trans (b4'.mono B3.out.size))
  have R14 := Lib.hid (R13.out.below b4' R13.out.lt)
  have R24 := Lib.hid (R23.out.below b4' R23.out.lt)
  have R34 := Lib.hid (R3.out.below b4' R3.out.lt)
  have R4 := Lib.hid (RowB.new w4 25 (tcc T4 An4 cn4 A4 c4))
  have I14 := I13.out.below b4'
  have I24 := I23.out.below b4'
  have I34 := Lib.hid (I3.out.below b4')
  have I4 := Lib.hid (ht4.below b4)
  have D5 := pflows_any HR.out.1 HR.out.2.1 HC.out.1 HC.out.2.1 _ _ _ _ _ _ _ _ _ _ _ I14 I24
  rw [HF1.out] at D5
  have D5 := Lib.hid D5
  have q1 := R14.out.cell
  have q2 := R24.out.cell
  have HD6 : Hid (∀ w', Below (w4.alloc (.cells (tcc T4 An4 cn4 A4 c4) 25)).heap.size (w4.alloc (.cells (tcc T4 An4 cn4 A4 c4) 25)) w' → Calls Tryz.prog 32 #[tv T3 An3 cn3 A3 c3, tv T4 An4 cn4 A4 c4] w' fun e w2 => e = .returned (.bool false) ∧ Below w'.heap.size w' w2) := fun w' hb => by
    have := pflows_any HR.out.2.2.1 HR.out.2.2.2 HC.out.2.2.1 HC.out.2.2.2 w' _ _ _ _ _ _ _ _ _ _ (I34.out.below hb) (I4.out.below hb)
    rw [HF2.out] at this
    exact this
  clear ht4 hb4 D4 b4 b4' R13 R23 R3 I13 I23 I3 I14 I24
  go_wp2_with fail
  refine D5.out.mono ?_
  rintro e w5 ⟨rfl, hb5⟩
  have D6 := Lib.hid (HD6.out _ hb5)
  have q3 := (R34.out.below hb5 R34.out.lt).cell
  have q4 := (R4.out.below hb5 R4.out.lt).cell
  have B5 := Lib.hid (B4.out.trans (hb5.mono B4.out.size))
  clear HD6 hb5 D5 q1 q2
  go_wp2_with fail
  refine D6.out.mono ?_
  rintro e w6 ⟨rfl, hb6⟩
  have B6 := Lib.hid (B5.out.trans (hb6.mono B5.out.size))
  clear hb6 D6
  go_wp2_with fail
  (first | go_ret | go_ret2)
  exact ⟨rfl, B6.out⟩
theorem awake10_any (w : World) (hT : Tabs w) (hE : Errs w) : Calls Tryz.prog 31 #[] w fun e w' => e = .returned (.bool true) ∧ Below w.heap.size w w' :=
  awake_gen s1 s2 s3 s4 _ _ _ _ rfl rfl rfl rfl c1 c2 c3 c4 fl12 fl34 ⟨by decide +kernel, by decide +kernel, by decide +kernel, by decide +kernel⟩ ⟨by decide, by decide, by decide, by decide⟩ w hT hE
end Tm
end Go.Proofs.YtifkjngclkklfaaGreatDoor
/- Contracts: law10's fits. -/
namespace Go.Proofs.YtifkjngclkklfaaGreatDoor
open Go.RowKit Go.Op
namespace Tm
def fitB (t : Ty) : Bool := t.light && t.right
theorem fit_take {f : Ty → Bool} {l : List Ty} {i : Nat} {t : Ty} (e : l[i]? = some t) (h : (l.take i).all f = true) (h' : f t = true) : (l.take (i + 1)).all f = true := by
  rw [List.take_add_one, e, List.all_append, h]; simp [h']
theorem fit_no {f : Ty → Bool} {l : List Ty} {i : Nat} {t : Ty} (e : l[i]? = some t) (h' : f t = false) : l.all f = false := by
  rw [List.all_eq_false]
  exact ⟨t, List.mem_of_getElem? e, by simp [h']⟩
set_option maxHeartbeats 8000000 in
set_option maxRecDepth 100000 in
theorem fits10_any (w : World) (ps : List Ty) (P : Nat → Prop) (A : Option Addr) (c : Nat) (h : TV w P ps A c) (hl : ps.length ≤ 1000001) :
    Calls Tryz.prog 30 #[.slice A ps.length c] w fun e w' => e = .returned (.bool (ps.all fitB)) ∧ Below w.heap.size w w' := by
  obtain ⟨n, hn⟩ : ∃ n, n = ps.length := ⟨_, rfl⟩
  rw [← hn] at hl ⊢
  obtain ⟨r, hr⟩ : ∃ r, r = ps.all fitB := ⟨_, rfl⟩
  rw [← hr]
  have HR := Lib.hid hr
  have HN := Lib.hid hn
  have HT := Lib.hid h
  clear h hn hr
  go_enter Tryz.func30, Tryz.ntmps30
  go_wp2_with fail
  go_loopg [7] (n + 1) (fun kx s7 wr => ∃ i : Nat, s7 = .int .i64 i ∧ n - i ≤ kx ∧ i ≤ n ∧ Hid ((ps.take i).all fitB = true) ∧ Hid (Below w.heap.size w wr))
  case atStart => exact ⟨0, rfl, by omega, by omega, by simp [Hid], Below.refl _ _⟩
  case round =>
    obtain ⟨i, rfl, hkx, hin, HQ, HB⟩ := hrel
    by_cases hi : i < n
    · have hil : (i : Int) < (n : Int) := by omega
      obtain ⟨t, e⟩ : ∃ t, ps[i]? = some t := get_lt (by rw [← HN.out]; exact hi)
      obtain ⟨g, o, An2, cn2, A2, c2, rfl, hP, hg, hti, v0, v1, v2⟩ := (HT.out.below HB.out).nth e
      have b1 := bel1 wr (.cells (tcc t An2 cn2 A2 c2) 25)
      have R1 := Lib.hid (RowB.new wr 25 (tcc t An2 cn2 A2 c2))
      have r1 := R1.out.cell
      have C1 := Lib.hid (light_any _ t P An2 cn2 A2 c2 (hti.below b1))
      have HTI := Lib.hid (hti.below b1)
      have HB1 := Lib.hid (HB.out.trans (b1.mono HB.out.size))
      have HE := Lib.hid e
      obtain ⟨l, hlt⟩ : ∃ l, l = t.light := ⟨_, rfl⟩
      have HL := Lib.hid hlt
      rw [← hlt] at C1
      obtain ⟨j, hj⟩ : ∃ j, j = i + 1 := ⟨_, rfl⟩
      clear e hti b1 hlt
      go_wp2_with fail
      refine C1.out.mono ?_
      rintro e w2 ⟨rfl, hb2⟩
      have HB2 := Lib.hid (HB1.out.trans (hb2.mono HB1.out.size))
      have r2 := (R1.out.below hb2 R1.out.lt).cell
      have HTI2 := Lib.hid (HTI.out.below hb2)
      clear hb2 C1 r1
      cases l with
      | false =>
        have HF : Hid (r = false) := by
          unfold Hid
          rw [HR.out]
          exact fit_no HE.out (by unfold fitB; rw [← HL.out]; rfl)
        clear HTI HTI2
        go_wp2_with fail
        (first | go_ret | go_ret2)
        exact ⟨by rw [HF.out]; rfl, HB2.out⟩
      | true =>
        have hcn := (light_cnt HL.out.symm).1
        have C2 := Lib.hid (rright_any t (by omega) _ P An2 cn2 A2 c2 HTI2.out)
        obtain ⟨rr, hrr⟩ : ∃ rr, rr = t.right := ⟨_, rfl⟩
        have HRR := Lib.hid hrr
        rw [← hrr] at C2
        clear hcn hrr
        go_wp2_with fail
        refine C2.out.mono ?_
        rintro e w3 ⟨rfl, hb3⟩
        have HB3 := Lib.hid (HB2.out.trans (hb3.mono HB2.out.size))
        clear hb3 C2 r2
        cases rr with
        | false =>
          have HF : Hid (r = false) := by
            unfold Hid
            rw [HR.out]
            exact fit_no HE.out (by unfold fitB; rw [← HL.out, ← HRR.out]; rfl)
          go_wp2_with fail
          (first | go_ret | go_ret2)
          exact ⟨by rw [HF.out]; rfl, HB3.out⟩
        | true =>
          have HQ2 : Hid ((ps.take (i + 1)).all fitB = true) := fit_take HE.out HQ.out (by unfold fitB; rw [← HL.out, ← HRR.out]; rfl)
          rw [← hj] at HQ2
          go_wp2_with fail
          go_roundg (n - j)
          case measure => omega
          case rel => exact ⟨j, by rw [hj]; go_num, by omega, by omega, HQ2, HB3⟩
    · have hil : ¬ (i : Int) < (n : Int) := by omega
      obtain rfl : i = n := by omega
      have HF : Hid (r = true) := by
        unfold Hid
        have h1 := HQ.out
        rw [List.take_of_length_le (by rw [← HN.out]; exact Nat.le_refl _)] at h1
        rw [HR.out, h1]
      clear hi
      go_wp2_with fail
      (first | go_ret | go_ret2)
      exact ⟨by rw [HF.out]; rfl, HB.out⟩
end Tm
end Go.Proofs.YtifkjngclkklfaaGreatDoor
