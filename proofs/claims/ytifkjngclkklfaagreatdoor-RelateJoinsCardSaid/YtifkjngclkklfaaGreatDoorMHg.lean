/- Contracts: what two types have in common, by the document. -/
import Derived.Test.YtifkjngclkklfaaGreatDoorMGw
import Derived.Test.YtifkjngclkklfaaGreatDoorMGu
namespace Go.Proofs.YtifkjngclkklfaaGreatDoor
open Go.RowKit Go.Op
namespace Tm
/-- What is known of parts: common answers of them, by the document. -/
def RJIH (xs ys : List Ty) : Prop :=
  ∀ x ∈ xs, ∀ y ∈ ys, ∀ (w : World) (P P' : Nat → Prop) (An : Option Addr) (cn : Nat) (A : Option Addr) (c : Nat) (Bn : Option Addr) (dn : Nat) (B : Option Addr) (d : Nat), TI w P x An cn A c → TI w P' y Bn dn B d →
    Calls Tryz.prog 35 #[tv x An cn A c, tv y Bn dn B d] w (MadeQ (fun g => (P g ∨ P' g) ∨ w.heap.size ≤ g) (com x y) w)
theorem lk_take_same {ns : List ByteArray} {ps : List Ty} {x y : ByteArray} {k : Nat} (e : ns[k]? = some y) (h : y ≠ x) (hl : ns.length = ps.length) : lk (ns.take (k + 1)) (ps.take (k + 1)) x = lk (ns.take k) (ps.take k) x := by
  induction ns generalizing ps k with
  | nil => simp at e
  | cons a ns ih =>
    cases ps with
    | nil => simp at hl
    | cons p ps =>
      cases k with
      | zero =>
        obtain rfl : a = y := by simpa using e
        simp only [List.take_succ_cons, List.take_zero, lk, if_neg h]
      | succ k =>
        simp only [List.take_succ_cons, lk]
        rw [ih (k := k) (ps := ps) (by simpa using e) (by simpa using hl)]
theorem lk_take_hit {ns : List ByteArray} {ps : List Ty} {x : ByteArray} {q : Ty} {k : Nat} (e : ns[k]? = some x) (e' : ps[k]? = some q) (hn : ns.Nodup) (hl : ns.length = ps.length) : lk (ns.take k) (ps.take k) x = none ∧ lk (ns.take (k + 1)) (ps.take (k + 1)) x = some q := by
  induction ns generalizing ps k with
  | nil => simp at e
  | cons a ns ih =>
    cases ps with
    | nil => simp at hl
    | cons p ps =>
      have hn := List.nodup_cons.1 hn
      cases k with
      | zero =>
        obtain rfl : a = x := by simpa using e
        obtain rfl : p = q := by simpa using e'
        simp [lk]
      | succ k =>
        have e : ns[k]? = some x := by simpa using e
        have hax : a ≠ x := fun h => hn.1 (by rw [h]; exact List.mem_of_getElem? e)
        simp only [List.take_succ_cons, lk, if_neg hax]
        exact ih e (by simpa using e') hn.2 (by simpa using hl)
/-- What the names so far have in common with one. -/
def ent (x : ByteArray) (p : Ty) (o : Option Ty) : List (ByteArray × Ty) := match o with | some q => [(x, com p q)] | none => []
/-- A record as far as it has been laid. -/
def JS (W1 : World) (T : Nat) (Q : Nat → Prop) (l : List (ByteArray × Ty)) (wr : World) : Prop :=
  ∃ v1 v2 cs, RC W1 wr T Q v1 v2 (l.map Prod.fst) (l.map Prod.snd) cs ∧ RowB wr T 25 #[.int .i64 3, v1, v2]
/-- A function as far as it has been laid. -/
def JF (W1 : World) (T : Nat) (Q : Nat → Prop) (l : List Ty) (wr : World) : Prop :=
  ∃ v2 cs, RC W1 wr T Q (.slice none 0 0) v2 [] l cs ∧ RowB wr T 25 #[.int .i64 4, .slice none 0 0, v2]
theorem ent_len (x : ByteArray) (p : Ty) (o : Option Ty) : (ent x p o).length ≤ 1 := by cases o <;> simp [ent]

set_option maxHeartbeats 16000000 in
set_option maxRecDepth 100000 in
/-- Both are one. -/
theorem rjoin_same (ka kb : Int) (na nb : List ByteArray) (pa pb : List Ty) (ra : (Ty.mk ka na pa).right = true) (rb : (Ty.mk kb nb pb).right = true) (ca : (Ty.mk ka na pa).cnt ≤ 1000001) (cb : (Ty.mk kb nb pb).cnt ≤ 1000001)
    (w : World) (P P' : Nat → Prop) (An : Option Addr) (cn : Nat) (A : Option Addr) (c : Nat) (Bn : Option Addr) (dn : Nat) (B : Option Addr) (d : Nat) (hA : TI w P (.mk ka na pa) An cn A c) (hB : TI w P' (.mk kb nb pb) Bn dn B d) (hsm : (Ty.mk ka na pa).same (.mk kb nb pb) = true) :
    Calls Tryz.prog 35 #[.agg #[.int .i64 ka, .slice An na.length cn, .slice A pa.length c], .agg #[.int .i64 kb, .slice Bn nb.length dn, .slice B pb.length d]] w (MadeQ (fun g => (P g ∨ P' g) ∨ w.heap.size ≤ g) (com (.mk ka na pa) (.mk kb nb pb)) w) := by
  replace hA : TI w (fun g => P g ∧ g < w.heap.size) (.mk ka na pa) An cn A c := hA.keep (Nat.le_refl _) fun g h hlt => ⟨rfl, h, hlt⟩
  replace hB : TI w (fun g => P' g ∧ g < w.heap.size) (.mk kb nb pb) Bn dn B d := hB.keep (Nat.le_refl _) fun g h hlt => ⟨rfl, h, hlt⟩
  obtain ⟨lna, hlna⟩ : ∃ n, n = na.length := ⟨_, rfl⟩
  obtain ⟨lpa, hlpa⟩ : ∃ n, n = pa.length := ⟨_, rfl⟩
  obtain ⟨lnb, hlnb⟩ : ∃ n, n = nb.length := ⟨_, rfl⟩
  obtain ⟨lpb, hlpb⟩ : ∃ n, n = pb.length := ⟨_, rfl⟩
  obtain ⟨S, hS⟩ : ∃ S, S = w.heap.size := ⟨_, rfl⟩
  have b1 := bel1 w (.cells (tarr ka An lna cn A lpa c) 25)
  obtain ⟨w1, h1⟩ : ∃ w1, w1 = w.alloc (.cells (tarr ka An lna cn A lpa c) 25) := ⟨_, rfl⟩
  have s1 : w1.heap.size = S + 1 := by rw [h1, hS]; simp
  have R1 : RowB w1 S 25 (tarr ka An lna cn A lpa c) := by rw [h1, hS]; exact RowB.new w 25 _
  rw [← h1] at b1
  obtain ⟨w2, h2⟩ : ∃ w2, w2 = w1.alloc (.cells (tarr kb Bn lnb dn B lpb d) 25) := ⟨_, rfl⟩
  have b2 : Below w1.heap.size w1 w2 := by rw [h2]; exact bel1 w1 _
  have s2 : w2.heap.size = S + 2 := by rw [h2]; simp [s1]
  have R2 : RowB w2 (S + 1) 25 (tarr kb Bn lnb dn B lpb d) := by rw [h2, ← s1]; exact RowB.new w1 25 _
  obtain ⟨w3, h3⟩ : ∃ w3, w3 = w2.alloc (.cells tzc 25) := ⟨_, rfl⟩
  have b3 : Below w2.heap.size w2 w3 := by rw [h3]; exact bel1 w2 _
  have s3 : w3.heap.size = S + 3 := by rw [h3]; simp [s2]
  have R3 : RowB w3 (S + 2) 25 tzc := by rw [h3, ← s2]; exact RowB.new w2 25 _
  have b23 := b2.trans (b3.mono b2.size)
  have b13 := b1.trans (b23.mono b1.size)
  have X1 := R1.below b23 R1.lt
  have X2 := R2.below b3 R2.lt
  have hTA := hA.below b13
  have hTB := hB.below b13
  have C0 := rsame_any (.mk ka na pa) ca (.mk kb nb pb) cb w3 _ _ An cn A c Bn dn B d hTA hTB
  obtain ⟨zz, hz⟩ : ∃ z, z = (Ty.mk ka na pa).same (.mk kb nb pb) := ⟨_, rfl⟩
  rw [← hz] at C0
  simp only [tv, kind_mk, names_mk, parts_mk, ← hlna, ← hlpa, ← hlnb, ← hlpb] at C0
  have C1 := Lib.hid C0
  have e1 : w3 = ((w.alloc (.cells (tarr ka An lna cn A lpa c) 25)).alloc (.cells (tarr kb Bn lnb dn B lpb d) 25)).alloc (.cells tzc 25) := by rw [h3, h2, h1]
  have x1 := X1.cell
  have x2 := X2.cell
  rw [hS] at X1 X2 R3 s3 x1 x2
  rw [e1] at x1 x2
  have HB0 := Lib.hid b13
  have HX1 := Lib.hid X1
  have HX2 := Lib.hid X2
  have HX3 := Lib.hid R3
  have HTA := Lib.hid hTA
  have HTB := Lib.hid hTB
  have HS3 := Lib.hid s3
  have HLN := Lib.hid (And.intro hlna (And.intro hlpa (And.intro hlnb hlpb)))
  have HZ := Lib.hid hz
  have HRA := Lib.hid ra
  have HRB := Lib.hid rb
  have HCA := Lib.hid ca
  have HCB := Lib.hid cb
  rw [← hlna, ← hlpa, ← hlnb, ← hlpb]
  clear h1 h2 h3 s1 s2 s3 R1 R2 R3 b1 b2 b3 b23 b13 hA hB hTA hTB C0 hz hS X1 X2 w1 w2 ra rb ca cb hlna hlpa hlnb hlpb
  go_enter Tryz.func35, Tryz.ntmps35
  go_wp2_with fail
  rw [← e1]
  refine C1.out.mono ?_
  rintro e W ⟨rfl, hb1⟩
  have Y1 := Lib.hid (HX1.out.below hb1 HX1.out.lt)
  have Y2 := Lib.hid (HX2.out.below hb1 HX2.out.lt)
  have Y3 := Lib.hid (HX3.out.below hb1 HX3.out.lt)
  have HB := Lib.hid (HB0.out.trans (hb1.mono HB0.out.size))
  have TA := Lib.hid (HTA.out.below hb1)
  have TB := Lib.hid (HTB.out.below hb1)
  have HWS : Hid (w.heap.size + 3 ≤ W.heap.size) := by unfold Hid; have := hb1.size; rw [HS3.out] at this; exact this
  clear hb1 C1 e1 x1 x2 HX1 HX2 HX3 HB0 HTA HTB HS3

  have HC : Hid (com (.mk ka na pa) (.mk kb nb pb) = .mk ka na pa) := by
    unfold Hid
    rw [Ty.same_iff] at hsm
    rw [← hsm]
    exact com_self _ HRA.out
  have hzz : zz = true := HZ.out.trans hsm
  clear hsm
  subst hzz
  have z1 := Y1.out.cell
  have z3 := Y3.out.cell
  have z3t := Y3.out.thaw
  go_wp2_with fail
  refine bodyPost_ret (v := .agg #[.int .i64 ka, .slice An lna cn, .slice A lpa c]) ?_ rfl ⟨below_put3 HB.out (by omega) _ _ _, An, cn, A, c, by rw [HC.out, HLN.out.1, HLN.out.2.1]; rfl, ?_⟩
  · simp [results, Tryz.results35, go_sem, z3]
    try first | rfl | exact ⟨rfl, rfl⟩
  · rw [HC.out]
    exact TA.out.put3 (fun g hg => ⟨.inl (.inl hg.1), by have := hg.2; omega⟩) _ _ _

set_option maxHeartbeats 16000000 in
set_option maxRecDepth 100000 in
/-- Nothing in common. -/
theorem rjoin_else (ka kb : Int) (na nb : List ByteArray) (pa pb : List Ty) (ra : (Ty.mk ka na pa).right = true) (rb : (Ty.mk kb nb pb).right = true) (ca : (Ty.mk ka na pa).cnt ≤ 1000001) (cb : (Ty.mk kb nb pb).cnt ≤ 1000001)
    (w : World) (P P' : Nat → Prop) (An : Option Addr) (cn : Nat) (A : Option Addr) (c : Nat) (Bn : Option Addr) (dn : Nat) (B : Option Addr) (d : Nat) (hA : TI w P (.mk ka na pa) An cn A c) (hB : TI w P' (.mk kb nb pb) Bn dn B d) (hsm : (Ty.mk ka na pa).same (.mk kb nb pb) = false) (h3 : ¬ (ka = 3 ∧ kb = 3)) (h4 : ¬ (ka = 4 ∧ kb = 4 ∧ pa.length = pb.length)) :
    Calls Tryz.prog 35 #[.agg #[.int .i64 ka, .slice An na.length cn, .slice A pa.length c], .agg #[.int .i64 kb, .slice Bn nb.length dn, .slice B pb.length d]] w (MadeQ (fun g => (P g ∨ P' g) ∨ w.heap.size ≤ g) (com (.mk ka na pa) (.mk kb nb pb)) w) := by
  replace hA : TI w (fun g => P g ∧ g < w.heap.size) (.mk ka na pa) An cn A c := hA.keep (Nat.le_refl _) fun g h hlt => ⟨rfl, h, hlt⟩
  replace hB : TI w (fun g => P' g ∧ g < w.heap.size) (.mk kb nb pb) Bn dn B d := hB.keep (Nat.le_refl _) fun g h hlt => ⟨rfl, h, hlt⟩
  obtain ⟨lna, hlna⟩ : ∃ n, n = na.length := ⟨_, rfl⟩
  obtain ⟨lpa, hlpa⟩ : ∃ n, n = pa.length := ⟨_, rfl⟩
  obtain ⟨lnb, hlnb⟩ : ∃ n, n = nb.length := ⟨_, rfl⟩
  obtain ⟨lpb, hlpb⟩ : ∃ n, n = pb.length := ⟨_, rfl⟩
  obtain ⟨S, hS⟩ : ∃ S, S = w.heap.size := ⟨_, rfl⟩
  have b1 := bel1 w (.cells (tarr ka An lna cn A lpa c) 25)
  obtain ⟨w1, h1⟩ : ∃ w1, w1 = w.alloc (.cells (tarr ka An lna cn A lpa c) 25) := ⟨_, rfl⟩
  have s1 : w1.heap.size = S + 1 := by rw [h1, hS]; simp
  have R1 : RowB w1 S 25 (tarr ka An lna cn A lpa c) := by rw [h1, hS]; exact RowB.new w 25 _
  rw [← h1] at b1
  obtain ⟨w2, h2⟩ : ∃ w2, w2 = w1.alloc (.cells (tarr kb Bn lnb dn B lpb d) 25) := ⟨_, rfl⟩
  have b2 : Below w1.heap.size w1 w2 := by rw [h2]; exact bel1 w1 _
  have s2 : w2.heap.size = S + 2 := by rw [h2]; simp [s1]
  have R2 : RowB w2 (S + 1) 25 (tarr kb Bn lnb dn B lpb d) := by rw [h2, ← s1]; exact RowB.new w1 25 _
  obtain ⟨w3, h3⟩ : ∃ w3, w3 = w2.alloc (.cells tzc 25) := ⟨_, rfl⟩
  have b3 : Below w2.heap.size w2 w3 := by rw [h3]; exact bel1 w2 _
  have s3 : w3.heap.size = S + 3 := by rw [h3]; simp [s2]
  have R3 : RowB w3 (S + 2) 25 tzc := by rw [h3, ← s2]; exact RowB.new w2 25 _
  have b23 := b2.trans (b3.mono b2.size)
  have b13 := b1.trans (b23.mono b1.size)
  have X1 := R1.below b23 R1.lt
  have X2 := R2.below b3 R2.lt
  have hTA := hA.below b13
  have hTB := hB.below b13
  have C0 := rsame_any (.mk ka na pa) ca (.mk kb nb pb) cb w3 _ _ An cn A c Bn dn B d hTA hTB
  obtain ⟨zz, hz⟩ : ∃ z, z = (Ty.mk ka na pa).same (.mk kb nb pb) := ⟨_, rfl⟩
  rw [← hz] at C0
  simp only [tv, kind_mk, names_mk, parts_mk, ← hlna, ← hlpa, ← hlnb, ← hlpb] at C0
  have C1 := Lib.hid C0
  have e1 : w3 = ((w.alloc (.cells (tarr ka An lna cn A lpa c) 25)).alloc (.cells (tarr kb Bn lnb dn B lpb d) 25)).alloc (.cells tzc 25) := by rw [h3, h2, h1]
  have x1 := X1.cell
  have x2 := X2.cell
  rw [hS] at X1 X2 R3 s3 x1 x2
  rw [e1] at x1 x2
  have HB0 := Lib.hid b13
  have HX1 := Lib.hid X1
  have HX2 := Lib.hid X2
  have HX3 := Lib.hid R3
  have HTA := Lib.hid hTA
  have HTB := Lib.hid hTB
  have HS3 := Lib.hid s3
  have HLN := Lib.hid (And.intro hlna (And.intro hlpa (And.intro hlnb hlpb)))
  have HZ := Lib.hid hz
  have HRA := Lib.hid ra
  have HRB := Lib.hid rb
  have HCA := Lib.hid ca
  have HCB := Lib.hid cb
  rw [← hlna, ← hlpa, ← hlnb, ← hlpb]
  clear h1 h2 h3 s1 s2 s3 R1 R2 R3 b1 b2 b3 b23 b13 hA hB hTA hTB C0 hz hS X1 X2 w1 w2 ra rb ca cb hlna hlpa hlnb hlpb
  go_enter Tryz.func35, Tryz.ntmps35
  go_wp2_with fail
  rw [← e1]
  refine C1.out.mono ?_
  rintro e W ⟨rfl, hb1⟩
  have Y1 := Lib.hid (HX1.out.below hb1 HX1.out.lt)
  have Y2 := Lib.hid (HX2.out.below hb1 HX2.out.lt)
  have Y3 := Lib.hid (HX3.out.below hb1 HX3.out.lt)
  have HB := Lib.hid (HB0.out.trans (hb1.mono HB0.out.size))
  have TA := Lib.hid (HTA.out.below hb1)
  have TB := Lib.hid (HTB.out.below hb1)
  have HWS : Hid (w.heap.size + 3 ≤ W.heap.size) := by unfold Hid; have := hb1.size; rw [HS3.out] at this; exact this
  clear hb1 C1 e1 x1 x2 HX1 HX2 HX3 HB0 HTA HTB HS3

  have HC : Hid (com (.mk ka na pa) (.mk kb nb pb) = dyn) := by
    unfold Hid
    have hne : (Ty.mk ka na pa) ≠ .mk kb nb pb := fun e => by rw [e, same_refl] at hsm; cases hsm
    by_cases h5 : ka = 4 ∧ kb = 4
    · rw [com_fn HRA.out HRB.out h5.1 h5.2, if_neg]
      intro e
      have e := congrArg List.length e
      simp only [parts_mk, initT, List.length_take] at e
      have p1 := (right_fn HRA.out h5.1).2
      have p2 := (right_fn HRB.out h5.2).2
      simp only [parts_mk] at p1 p2
      exact h4 ⟨h5.1, h5.2, by omega⟩
    · rw [com_else HRA.out HRB.out h3 h5, if_neg hne]
  have hzz : zz = false := HZ.out.trans hsm
  clear hsm
  subst hzz
  have z1 := Y1.out.cell
  have z2 := Y2.out.cell
  have l1 : w.heap.size < W.heap.size := Y1.out.lt
  have l2 : w.heap.size + 1 < W.heap.size := Y2.out.lt
  have z3 := (Y3.out.alloc (.cells tzc 25)).cell
  have z3t := (Y3.out.alloc (.cells tzc 25)).thaw
  have HBF : Hid (Below w.heap.size w (W.alloc (.cells tzc 25))) := HB.out.trans ((bel1 W _).mono HB.out.size)
  have fin : ∀ u0 u1 u2, MadeQ (fun g => (P g ∨ P' g) ∨ w.heap.size ≤ g) (com (.mk ka na pa) (.mk kb nb pb)) w (.returned tz) ((((W.alloc (.cells tzc 25)).setCell ⟨w.heap.size + 2, 0, none⟩ u0).setCell ⟨w.heap.size + 2, 1, none⟩ u1).setCell ⟨w.heap.size + 2, 2, none⟩ u2) := fun u0 u1 u2 =>
    ⟨below_put3 HBF.out (by omega) _ _ _, none, 0, none, 0, by rw [HC.out]; rfl, by rw [HC.out]; exact TI_iff.2 ⟨NV.nil _ _ _ _, TV.nil _ _ _ _⟩⟩
  have FIN := Lib.hid fin
  clear fin HC HB
  by_cases k3 : ka = 3
  · have n3 : (kb == 3) = false := by rw [beq_eq_false_iff_ne]; exact fun e => h3 ⟨k3, e⟩
    subst k3
    clear h3 h4
    go_wp2_with fail
    refine bodyPost_ret (v := tz) ?_ rfl (FIN.out _ _ _)
    simp [results, Tryz.results35, go_sem, z3]
    try first | rfl | exact ⟨rfl, rfl⟩
  have n3 : (ka == 3) = false := by rw [beq_eq_false_iff_ne]; exact k3
  by_cases k4 : ka = 4
  · subst k4
    by_cases k5 : kb = 4
    · subst k5
      have hl : ((lpa : Int) != (lpb : Int)) = true := by
        have := HLN.out
        rw [bne_iff_ne]
        intro e
        exact h4 ⟨rfl, rfl, by omega⟩
      clear h3 h4 k3
      go_wp2_with fail
      refine bodyPost_ret (v := tz) ?_ rfl (FIN.out _ _ _)
      simp [results, Tryz.results35, go_sem, z3]
      try first | rfl | exact ⟨rfl, rfl⟩
    · have n5 : (kb != 4) = true := by rw [bne_iff_ne]; exact k5
      clear h3 h4 k3 k5
      go_wp2_with fail
      refine bodyPost_ret (v := tz) ?_ rfl (FIN.out _ _ _)
      simp [results, Tryz.results35, go_sem, z3]
      try first | rfl | exact ⟨rfl, rfl⟩
  · have n4 : (ka != 4) = true := by rw [bne_iff_ne]; exact k4
    clear h3 h4 k3 k4
    go_wp2_with fail
    refine bodyPost_ret (v := tz) ?_ rfl (FIN.out _ _ _)
    simp [results, Tryz.results35, go_sem, z3]
    try first | rfl | exact ⟨rfl, rfl⟩
end Tm
end Go.Proofs.YtifkjngclkklfaaGreatDoor
