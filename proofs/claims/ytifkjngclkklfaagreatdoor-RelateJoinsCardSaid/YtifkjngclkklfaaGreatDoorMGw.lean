/- Contracts: what two types have in common, by the program. -/
import Derived.Test.YtifkjngclkklfaaGreatDoorMGv
namespace Go.Proofs.YtifkjngclkklfaaGreatDoor
open Go.RowKit Go.Op
namespace Tm
set_option maxHeartbeats 16000000 in
set_option maxRecDepth 100000 in
theorem common_step (ka kb : Int) (na nb : List ByteArray) (pa pb : List Ty) (ra : (Ty.mk ka na pa).right = true) (rb : (Ty.mk kb nb pb).right = true) (ca : (Ty.mk ka na pa).cnt ≤ 1000001) (cb : (Ty.mk kb nb pb).cnt ≤ 1000001) (I1 : ComIH pa pb)
    (w : World) (P P' : Nat → Prop) (An : Option Addr) (cn : Nat) (A : Option Addr) (c : Nat) (Bn : Option Addr) (dn : Nat) (B : Option Addr) (d : Nat) (hA : TI w P (.mk ka na pa) An cn A c) (hB : TI w P' (.mk kb nb pb) Bn dn B d) :
    Calls Tryz.prog 55 #[.agg #[.int .i64 ka, .slice An na.length cn, .slice A pa.length c], .agg #[.int .i64 kb, .slice Bn nb.length dn, .slice B pb.length d]] w (MadeQ (fun g => (P g ∨ P' g) ∨ w.heap.size ≤ g) (com (.mk ka na pa) (.mk kb nb pb)) w) := by
  replace hA : TI w (fun g => P g ∧ g < w.heap.size) (.mk ka na pa) An cn A c := hA.keep (Nat.le_refl _) fun g h hlt => ⟨rfl, h, hlt⟩
  replace hB : TI w (fun g => P' g ∧ g < w.heap.size) (.mk kb nb pb) Bn dn B d := hB.keep (Nat.le_refl _) fun g h hlt => ⟨rfl, h, hlt⟩
  obtain ⟨S, hS⟩ : ∃ S, S = w.heap.size := ⟨_, rfl⟩
  have b1 := bel1 w (.cells (tarr ka An na.length cn A pa.length c) 25)
  obtain ⟨w1, h1⟩ : ∃ w1, w1 = w.alloc (.cells (tarr ka An na.length cn A pa.length c) 25) := ⟨_, rfl⟩
  have s1 : w1.heap.size = S + 1 := by rw [h1, hS]; simp
  have R1 : RowB w1 S 25 (tarr ka An na.length cn A pa.length c) := by rw [h1, hS]; exact RowB.new w 25 _
  rw [← h1] at b1
  obtain ⟨w2, h2⟩ : ∃ w2, w2 = w1.alloc (.cells (tarr kb Bn nb.length dn B pb.length d) 25) := ⟨_, rfl⟩
  have b2 : Below w1.heap.size w1 w2 := by rw [h2]; exact bel1 w1 _
  have s2 : w2.heap.size = S + 2 := by rw [h2]; simp [s1]
  have R2 : RowB w2 (S + 1) 25 (tarr kb Bn nb.length dn B pb.length d) := by rw [h2, ← s1]; exact RowB.new w1 25 _
  obtain ⟨w3, h3⟩ : ∃ w3, w3 = w2.alloc (.cells tzc 25) := ⟨_, rfl⟩
  have b3 : Below w2.heap.size w2 w3 := by rw [h3]; exact bel1 w2 _
  have R3 : RowB w3 (S + 2) 25 tzc := by rw [h3, ← s2]; exact RowB.new w2 25 _
  have b23 := b2.trans (b3.mono b2.size)
  have b13 := b1.trans (b23.mono b1.size)
  have X1 := Lib.hid (R1.below b23 R1.lt)
  have X2 := Lib.hid (R2.below b3 R2.lt)
  have X3 := Lib.hid R3
  have HB0 := Lib.hid b13
  have HTIA := Lib.hid (hA.below b13)
  have HTIB := Lib.hid (hB.below b13)
  have HNA := Lib.hid (TI_iff.1 HTIA.out).1
  have HTA := Lib.hid (TI_iff.1 HTIA.out).2
  have HNB := Lib.hid (TI_iff.1 HTIB.out).1
  have HTB := Lib.hid (TI_iff.1 HTIB.out).2
  simp only [names_mk, parts_mk] at HNA HTA HNB HTB
  have e1 : w3 = ((w.alloc (.cells (tarr ka An na.length cn A pa.length c) 25)).alloc (.cells (tarr kb Bn nb.length dn B pb.length d) 25)).alloc (.cells tzc 25) := by rw [h3, h2, h1]
  rw [hS] at X1 X2 X3
  have HI := Lib.hid I1
  have HRA := Lib.hid ra
  have HRB := Lib.hid rb
  have hcl1 : na.length ≤ 1000001 ∧ cntL pa ≤ 1000000 := by rw [Ty.cnt] at ca; omega
  have hcl2 : nb.length ≤ 1000001 ∧ cntL pb ≤ 1000000 := by rw [Ty.cnt] at cb; omega
  have HC1 := Lib.hid hcl1
  have HC2 := Lib.hid hcl2
  have HCA := Lib.hid ca
  have HCB := Lib.hid cb
  have x1 := X1.out.cell
  have x2 := X2.out.cell
  clear h1 h2 h3 s1 s2 R1 R2 R3 b1 b2 b3 b23 b13 hA hB I1 ra rb ca cb hcl1 hcl2 hS w1 w2
  by_cases h33 : ka = 3 ∧ kb = 3
  · obtain ⟨rfl, rfl⟩ := h33
    have hC := com_rec HRA.out HRB.out rfl rfl
    have C0 := comrec_any w3 nb na pb pa _ _ Bn dn B d An cn A c HNB.out HTB.out HNA.out HTA.out HRB.out HRA.out (by have := HC2.out.1; omega) (by have := cntL_len pa; have := HC1.out.2; omega) HI.out
    try simp only [names_mk, parts_mk] at hC
    rw [← hC] at C0
    obtain ⟨T, hT⟩ : ∃ T, T = com (.mk 3 na pa) (.mk 3 nb pb) := ⟨_, rfl⟩
    rw [← hT] at C0 ⊢
    have C1 := Lib.hid C0
    clear HI HNA HTA HNB HTB HTIA HTIB hC hT C0 HRA HRB HCA HCB HC1 HC2
    obtain ⟨k5, n5, p5⟩ := T
    go_enter Tryz.func55, Tryz.ntmps55
    go_wp2_with fail
    rw [← e1]
    refine C1.out.mono ?_
    rintro e w4 ⟨h1, An2, cn2, A2, c2, rfl, ht1⟩
    have Z3 := Lib.hid (X3.out.below h1 X3.out.lt)
    have HB4 := Lib.hid (HB0.out.trans (h1.mono HB0.out.size))
    have HT4 := Lib.hid ht1
    have hsz := h1.size
    have hlt0 := X3.out.lt
    have hlt : w.heap.size + 2 < w4.heap.size := Z3.out.lt
    have z3 := Z3.out.cell
    have z3t := Z3.out.thaw
    clear h1 ht1 C1 x1 x2 e1 X1 X2
    go_wp2_with fail
    refine bodyPost_ret (v := .agg #[.int .i64 k5, .slice An2 n5.length cn2, .slice A2 p5.length c2]) ?_ rfl ⟨below_put3 HB4.out (by omega) _ _ _, An2, cn2, A2, c2, rfl, ?_⟩
    · simp [results, Tryz.results55, go_sem, z3]
      try first | rfl | exact ⟨rfl, rfl⟩
    · refine HT4.out.put3 (fun g hg => ?_) _ _ _
      rcases hg with (h | h) | h
      · exact ⟨.inl (.inl h.1), by omega⟩
      · exact ⟨.inl (.inr h.1), by omega⟩
      · exact ⟨.inr (by omega), by omega⟩
  · by_cases h44 : ka = 4 ∧ kb = 4
    · obtain ⟨rfl, rfl⟩ := h44
      obtain rfl : na = [] := (right_fn HRA.out rfl).1
      obtain rfl : nb = [] := (right_fn HRB.out rfl).1
      simp only [List.length_nil] at e1 X1 X2 x1 x2 ⊢
      have C0 := comfn_any w3 pa pb _ _ An cn A c Bn dn B d HTA.out HTB.out HRA.out HRB.out HC1.out.2 HC2.out.2 HI.out
      obtain ⟨T, hT⟩ : ∃ T, T = com (.mk 4 [] pa) (.mk 4 [] pb) := ⟨_, rfl⟩
      rw [← hT] at C0 ⊢
      have C1 := Lib.hid C0
      clear HI HNA HTA HNB HTB HTIA HTIB hT C0 HRA HRB HCA HCB HC1 HC2
      obtain ⟨k5, n5, p5⟩ := T
      go_enter Tryz.func55, Tryz.ntmps55
      go_wp2_with fail
      rw [← e1]
      refine C1.out.mono ?_
      rintro e w4 ⟨h1, An2, cn2, A2, c2, rfl, ht1⟩
      have Z3 := Lib.hid (X3.out.below h1 X3.out.lt)
      have HB4 := Lib.hid (HB0.out.trans (h1.mono HB0.out.size))
      have HT4 := Lib.hid ht1
      have hsz := h1.size
      have hlt0 := X3.out.lt
      have hlt : w.heap.size + 2 < w4.heap.size := Z3.out.lt
      have z3 := Z3.out.cell
      have z3t := Z3.out.thaw
      clear h1 ht1 C1 x1 x2 e1 X1 X2
      go_wp2_with fail
      refine bodyPost_ret (v := .agg #[.int .i64 k5, .slice An2 n5.length cn2, .slice A2 p5.length c2]) ?_ rfl ⟨below_put3 HB4.out (by omega) _ _ _, An2, cn2, A2, c2, rfl, ?_⟩
      · simp [results, Tryz.results55, go_sem, z3]
        try first | rfl | exact ⟨rfl, rfl⟩
      · refine HT4.out.put3 (fun g hg => ?_) _ _ _
        rcases hg with (h | h) | h
        · exact ⟨.inl (.inl h.1), by omega⟩
        · exact ⟨.inl (.inr h.1), by omega⟩
        · exact ⟨.inr (by omega), by omega⟩
    · have hC : com (.mk ka na pa) (.mk kb nb pb) = if (Ty.mk ka na pa) = .mk kb nb pb then .mk ka na pa else dyn := com_else HRA.out HRB.out h33 h44
      have C0 := psame_any (.mk ka na pa) HCA.out (.mk kb nb pb) HCB.out w3 _ _ An cn A c Bn dn B d HTIA.out HTIB.out
      obtain ⟨z, hz⟩ : ∃ z, z = (Ty.mk ka na pa).same (.mk kb nb pb) := ⟨_, rfl⟩
      have HZ : Hid (z = true ↔ (Ty.mk ka na pa) = .mk kb nb pb) := by unfold Hid; rw [hz]; exact Ty.same_iff _ _
      rw [← hz] at C0
      have C1 := Lib.hid C0
      have HCE := Lib.hid hC
      have hcase : ((ka == 3) = true ∧ (kb == 3) = false ∧ (ka == 4) = false) ∨ ((ka == 3) = false ∧ (ka == 4) = true ∧ (kb == 4) = false) ∨ ((ka == 3) = false ∧ (ka == 4) = false) := by
        by_cases a3 : ka = 3
        · subst a3
          have : kb ≠ 3 := fun h => h33 ⟨rfl, h⟩
          exact .inl ⟨rfl, by simpa using this, rfl⟩
        · by_cases a4 : ka = 4
          · subst a4
            have : kb ≠ 4 := fun h => h44 ⟨rfl, h⟩
            exact .inr (.inl ⟨rfl, rfl, by simpa using this⟩)
          · exact .inr (.inr ⟨by simpa using a3, by simpa using a4⟩)
      clear HI HNA HTA HNB HTB HTIB hC hz C0 HRA HRB HCA HCB HC1 HC2 h33 h44
      simp only [tv, kind_mk, names_mk, parts_mk] at C1
      go_enter Tryz.func55, Tryz.ntmps55
      rcases hcase with ⟨m1, m2, m3⟩ | ⟨m1, m2, m3⟩ | ⟨m1, m2⟩
      all_goals
        go_wp2_with fail
        rw [← e1]
        refine C1.out.mono ?_
        rintro e w4 ⟨rfl, h1⟩
        have Z3 := Lib.hid (X3.out.below h1 X3.out.lt)
        have HB4 := Lib.hid (HB0.out.trans (h1.mono HB0.out.size))
        have HT4 := Lib.hid (HTIA.out.below h1)
        have Z1 := Lib.hid (X1.out.below h1 X1.out.lt)
        have hlt : w.heap.size + 2 < w4.heap.size := Z3.out.lt
        have z1 := Z1.out.cell
        have z3 := Z3.out.cell
        have z3t := Z3.out.thaw
        clear h1 C1 x1 x2 e1 X1 X2 HTIA
        cases z with
        | false =>
          have HC : Hid (com (.mk ka na pa) (.mk kb nb pb) = dyn) := by
            unfold Hid
            rw [HCE.out]
            exact if_neg fun h => by have := HZ.out.2 h; cases this
          clear HCE HZ HT4
          go_wp2_with fail
          refine bodyPost_ret (v := tz) ?_ rfl ⟨below_put3 HB4.out (by omega) _ _ _, none, 0, none, 0, by rw [HC.out]; rfl, by rw [HC.out]; exact TI_iff.2 ⟨NV.nil _ _ _ _, TV.nil _ _ _ _⟩⟩
          simp [results, Tryz.results55, go_sem, z3]
          try first | rfl | exact ⟨rfl, rfl⟩
        | true =>
          have HC : Hid (com (.mk ka na pa) (.mk kb nb pb) = .mk ka na pa) := by
            unfold Hid
            rw [HCE.out]
            exact if_pos (HZ.out.1 rfl)
          clear HCE HZ
          go_wp2_with fail
          refine bodyPost_ret (v := .agg #[.int .i64 ka, .slice An na.length cn, .slice A pa.length c]) ?_ rfl ⟨below_put3 HB4.out (by omega) _ _ _, An, cn, A, c, by rw [HC.out]; rfl, ?_⟩
          · simp [results, Tryz.results55, go_sem, z3]
            try first | rfl | exact ⟨rfl, rfl⟩
          · rw [HC.out]
            exact HT4.out.put3 (fun g hg => ⟨.inl (.inl hg.1), by omega⟩) _ _ _
theorem common_any : ∀ a : Ty, a.right = true → a.cnt ≤ 1000001 → ∀ b : Ty, b.right = true → b.cnt ≤ 1000001 → ∀ (w : World) (P P' : Nat → Prop) (An : Option Addr) (cn : Nat) (A : Option Addr) (c : Nat) (Bn : Option Addr) (dn : Nat) (B : Option Addr) (d : Nat), TI w P a An cn A c → TI w P' b Bn dn B d →
    Calls Tryz.prog 55 #[tv a An cn A c, tv b Bn dn B d] w (MadeQ (fun g => (P g ∨ P' g) ∨ w.heap.size ≤ g) (com a b) w) := by
  refine Ty.ind fun k ns ps ih ra ca b rb cb w P P' An cn A c Bn dn B d hA hB => ?_
  obtain ⟨k', ms, qs⟩ := b
  refine common_step k k' ns ms ps qs ra rb ca cb (fun x hx y hy => ih x hx (right_part (t := .mk k ns ps) ra hx) (Nat.le_of_lt (Nat.lt_of_lt_of_le (cnt_part (t := .mk k ns ps) hx) ca)) y (right_part (t := .mk k' ms qs) rb hy) (Nat.le_of_lt (Nat.lt_of_lt_of_le (cnt_part (t := .mk k' ms qs) hy) cb))) w P P' An cn A c Bn dn B d hA hB
end Tm
end Go.Proofs.YtifkjngclkklfaaGreatDoor
/- Contracts: Join, by the program. -/
namespace Go.Proofs.YtifkjngclkklfaaGreatDoor
open Go.RowKit Go.Op
namespace Tm
set_option maxHeartbeats 16000000 in
set_option maxRecDepth 100000 in
theorem join_step (ka kb : Int) (na nb : List ByteArray) (pa pb : List Ty) (ra : (Ty.mk ka na pa).right = true) (rb : (Ty.mk kb nb pb).right = true) (ca : (Ty.mk ka na pa).cnt ≤ 1000001) (cb : (Ty.mk kb nb pb).cnt ≤ 1000001)
    (w : World) (P P' : Nat → Prop) (An : Option Addr) (cn : Nat) (A : Option Addr) (c : Nat) (Bn : Option Addr) (dn : Nat) (B : Option Addr) (d : Nat) (hA : TI w P (.mk ka na pa) An cn A c) (hB : TI w P' (.mk kb nb pb) Bn dn B d) :
    Calls Tryz.prog 36 #[.agg #[.int .i64 ka, .slice An na.length cn, .slice A pa.length c], .agg #[.int .i64 kb, .slice Bn nb.length dn, .slice B pb.length d]] w (MadeQ (fun g => (P g ∨ P' g) ∨ w.heap.size ≤ g) (com (.mk ka na pa) (.mk kb nb pb)) w) := by
  replace hA : TI w (fun g => P g ∧ g < w.heap.size) (.mk ka na pa) An cn A c := hA.keep (Nat.le_refl _) fun g h hlt => ⟨rfl, h, hlt⟩
  replace hB : TI w (fun g => P' g ∧ g < w.heap.size) (.mk kb nb pb) Bn dn B d := hB.keep (Nat.le_refl _) fun g h hlt => ⟨rfl, h, hlt⟩
  obtain ⟨S, hS⟩ : ∃ S, S = w.heap.size := ⟨_, rfl⟩
  have b1 := bel1 w (.cells (tarr ka An na.length cn A pa.length c) 25)
  obtain ⟨w1, h1⟩ : ∃ w1, w1 = w.alloc (.cells (tarr ka An na.length cn A pa.length c) 25) := ⟨_, rfl⟩
  have s1 : w1.heap.size = S + 1 := by rw [h1, hS]; simp
  have R1 : RowB w1 S 25 (tarr ka An na.length cn A pa.length c) := by rw [h1, hS]; exact RowB.new w 25 _
  rw [← h1] at b1
  obtain ⟨w2, h2⟩ : ∃ w2, w2 = w1.alloc (.cells (tarr kb Bn nb.length dn B pb.length d) 25) := ⟨_, rfl⟩
  have b2 : Below w1.heap.size w1 w2 := by rw [h2]; exact bel1 w1 _
  have s2 : w2.heap.size = S + 2 := by rw [h2]; simp [s1]
  have R2 : RowB w2 (S + 1) 25 (tarr kb Bn nb.length dn B pb.length d) := by rw [h2, ← s1]; exact RowB.new w1 25 _
  obtain ⟨w3, h3⟩ : ∃ w3, w3 = w2.alloc (.cells tzc 25) := ⟨_, rfl⟩
  have b3 : Below w2.heap.size w2 w3 := by rw [h3]; exact bel1 w2 _
  have R3 : RowB w3 (S + 2) 25 tzc := by rw [h3, ← s2]; exact RowB.new w2 25 _
  have b23 := b2.trans (b3.mono b2.size)
  have b13 := b1.trans (b23.mono b1.size)
  have X1 := Lib.hid (R1.below b23 R1.lt)
  have X2 := Lib.hid (R2.below b3 R2.lt)
  have X3 := Lib.hid R3
  have HB0 := Lib.hid b13
  have HTIA := Lib.hid (hA.below b13)
  have HTIB := Lib.hid (hB.below b13)
  have HNA := Lib.hid (TI_iff.1 HTIA.out).1
  have HTA := Lib.hid (TI_iff.1 HTIA.out).2
  have HNB := Lib.hid (TI_iff.1 HTIB.out).1
  have HTB := Lib.hid (TI_iff.1 HTIB.out).2
  simp only [names_mk, parts_mk] at HNA HTA HNB HTB
  have e1 : w3 = ((w.alloc (.cells (tarr ka An na.length cn A pa.length c) 25)).alloc (.cells (tarr kb Bn nb.length dn B pb.length d) 25)).alloc (.cells tzc 25) := by rw [h3, h2, h1]
  rw [hS] at X1 X2 X3
  have HRA := Lib.hid ra
  have HRB := Lib.hid rb
  have hcl1 : na.length ≤ 1000001 ∧ cntL pa ≤ 1000000 := by rw [Ty.cnt] at ca; omega
  have hcl2 : nb.length ≤ 1000001 ∧ cntL pb ≤ 1000000 := by rw [Ty.cnt] at cb; omega
  have HC1 := Lib.hid hcl1
  have HC2 := Lib.hid hcl2
  have HCA := Lib.hid ca
  have HCB := Lib.hid cb
  have x1 := X1.out.cell
  have x2 := X2.out.cell
  clear h1 h2 h3 s1 s2 R1 R2 R3 b1 b2 b3 b23 b13 hA hB ra rb ca cb hcl1 hcl2 hS w1 w2
  have C0 := psame_any (.mk ka na pa) HCA.out (.mk kb nb pb) HCB.out w3 _ _ An cn A c Bn dn B d HTIA.out HTIB.out
  obtain ⟨z, hz⟩ : ∃ z, z = (Ty.mk ka na pa).same (.mk kb nb pb) := ⟨_, rfl⟩
  have HZ : Hid (z = true → com (.mk ka na pa) (.mk kb nb pb) = .mk ka na pa) := by
    intro h
    rw [hz, Ty.same_iff] at h
    rw [← h]
    exact com_self _ HRA.out
  rw [← hz] at C0
  have C1 := Lib.hid C0
  have C2 : Hid (∀ w', Below w3.heap.size w3 w' → Calls Tryz.prog 55 #[tv (.mk ka na pa) An cn A c, tv (.mk kb nb pb) Bn dn B d] w' (MadeQ (fun g => ((P g ∧ g < w.heap.size) ∨ (P' g ∧ g < w.heap.size)) ∨ w'.heap.size ≤ g) (com (.mk ka na pa) (.mk kb nb pb)) w')) := fun w' hb => common_any _ HRA.out HCA.out _ HRB.out HCB.out w' _ _ An cn A c Bn dn B d (HTIA.out.below hb) (HTIB.out.below hb)
  obtain ⟨T, hT⟩ : ∃ T, T = com (.mk ka na pa) (.mk kb nb pb) := ⟨_, rfl⟩
  rw [← hT] at C2 HZ ⊢
  clear HNA HTA HNB HTB HTIB hz C0 HRA HRB HCA HCB HC1 HC2 hT
  simp only [tv, kind_mk, names_mk, parts_mk] at C1 C2
  go_enter Tryz.func36, Tryz.ntmps36
  go_wp2_with fail
  rw [← e1]
  refine C1.out.mono ?_
  rintro e w4 ⟨rfl, h1⟩
  have Z3 := Lib.hid (X3.out.below h1 X3.out.lt)
  have HB4 := Lib.hid (HB0.out.trans (h1.mono HB0.out.size))
  have HB34 := Lib.hid h1
  have HT4 := Lib.hid (HTIA.out.below h1)
  have Z1 := Lib.hid (X1.out.below h1 X1.out.lt)
  have Z2 := Lib.hid (X2.out.below h1 X2.out.lt)
  have hlt : w.heap.size + 2 < w4.heap.size := Z3.out.lt
  have z1 := Z1.out.cell
  have z2 := Z2.out.cell
  clear h1 C1 x1 x2 e1 X1 X2 HTIA
  cases z with
  | true =>
    have z3 := Z3.out.cell
    have z3t := Z3.out.thaw
    have HC : Hid (T = .mk ka na pa) := HZ.out (by first | rfl | trivial)
    clear HZ C2
    go_wp2_with fail
    refine bodyPost_ret (v := .agg #[.int .i64 ka, .slice An na.length cn, .slice A pa.length c]) ?_ rfl ⟨below_put3 HB4.out (by omega) _ _ _, An, cn, A, c, by rw [HC.out]; rfl, ?_⟩
    · simp [results, Tryz.results36, go_sem, z3]
      try first | rfl | exact ⟨rfl, rfl⟩
    · rw [HC.out]
      exact HT4.out.put3 (fun g hg => ⟨.inl (.inl hg.1), by omega⟩) _ _ _
  | false =>
    have C3 := Lib.hid (C2.out _ HB34.out)
    obtain ⟨k5, n5, p5⟩ := T
    clear HZ C2 HT4
    go_wp2_with fail
    refine C3.out.mono ?_
    rintro e w5 ⟨h2, An2, cn2, A2, c2, rfl, ht1⟩
    have Y3 := Lib.hid (Z3.out.below h2 Z3.out.lt)
    have HB5 := Lib.hid (HB4.out.trans (h2.mono HB4.out.size))
    have HT5 := Lib.hid ht1
    have hlt5 : w.heap.size + 2 < w5.heap.size := Y3.out.lt
    have y3 := Y3.out.cell
    have y3t := Y3.out.thaw
    clear h2 ht1 C3 z1 z2 Z1 Z2
    go_wp2_with fail
    refine bodyPost_ret (v := .agg #[.int .i64 k5, .slice An2 n5.length cn2, .slice A2 p5.length c2]) ?_ rfl ⟨below_put3 HB5.out (by omega) _ _ _, An2, cn2, A2, c2, rfl, ?_⟩
    · simp [results, Tryz.results36, go_sem, y3]
      try first | rfl | exact ⟨rfl, rfl⟩
    · refine HT5.out.put3 (fun g hg => ?_) _ _ _
      rcases hg with (h | h) | h
      · exact ⟨.inl (.inl h.1), by omega⟩
      · exact ⟨.inl (.inr h.1), by omega⟩
      · exact ⟨.inr (by omega), by omega⟩
theorem join_any (a b : Ty) (ra : a.right = true) (rb : b.right = true) (ca : a.cnt ≤ 1000001) (cb : b.cnt ≤ 1000001) (w : World) (P P' : Nat → Prop) (An : Option Addr) (cn : Nat) (A : Option Addr) (c : Nat) (Bn : Option Addr) (dn : Nat) (B : Option Addr) (d : Nat) (hA : TI w P a An cn A c) (hB : TI w P' b Bn dn B d) :
    Calls Tryz.prog 36 #[tv a An cn A c, tv b Bn dn B d] w (MadeQ (fun g => (P g ∨ P' g) ∨ w.heap.size ≤ g) (com a b) w) := by
  obtain ⟨ka, na, pa⟩ := a
  obtain ⟨kb, nb, pb⟩ := b
  exact join_step ka kb na nb pa pb ra rb ca cb w P P' An cn A c Bn dn B d hA hB
end Tm
end Go.Proofs.YtifkjngclkklfaaGreatDoor
