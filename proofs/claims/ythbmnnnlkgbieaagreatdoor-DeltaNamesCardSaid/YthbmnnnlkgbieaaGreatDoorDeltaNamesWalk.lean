/- The law DeltaNames answers true. -/
import Derived.Test.YthbmnnnlkgbieaaGreatDoorTW
namespace Go.Proofs.YthbmnnnlkgbieaaGreatDoor
open Go.RowKit

theorem u8w {n : Int} (h : (Lit.int .u8 n).wf = true) : 0 ≤ n ∧ n ≤ 255 := by simpa [Lit.wf, IntKind.min, IntKind.max, IntKind.signed, IntKind.bits] using h
theorem rd5 : Tryz.prog.readableRec 5 = true ∧ 5 < Tryz.prog.types.size := ⟨by kernel_rfl, of_decide_eq_true (by kernel_rfl)⟩
/-- What the law has found behind its first k tokens. -/
structure Found (s nm : ByteArray) (l : List Tok) (k : Nat) (wd : ByteArray) : Prop where
  no : ∀ j (h : j < l.length), j < k → l[j].text ≠ nm
  wo : wd = ⟨#[]⟩ ∨ NL wd
  size : wd.size ≤ s.size
theorem Found.set {s nm : ByteArray} {l : List Tok} {k : Nat} {wd : ByteArray} (h : Found s nm l k wd) (hl : RLex s l) (hk : k < l.length) (hn : l[k].text ≠ nm) : Found s nm l (k + 1) wd ∧ (l[k].kind = 1 → Found s nm l (k + 1) l[k].text) := by
  have h1 : ∀ j (h : j < l.length), j < k + 1 → l[j].text ≠ nm := fun j hj hjk => by
    by_cases e : j = k
    · subst e; exact hn
    · exact h.no j hj (by omega)
  have h2 := hl.size_le _ (List.getElem_mem hk)
  exact ⟨⟨h1, h.wo, h.size⟩, fun hkd => ⟨h1, .inr (h2.2.2 hkd), h2.2.1⟩⟩

set_option maxHeartbeats 8000000 in
set_option maxRecDepth 100000 in
theorem deltaNames.walk (s nm : ByteArray) (wh : Int) (w : World) (hT : Tabs w) (hE : Errs w) (hs : s.size ≤ maxLen) (ht : nm.size ≤ maxLen) (hw0 : 0 ≤ wh) (hw1 : wh ≤ 255) :
    Calls Tryz.prog 5 #[.string s, .int .u8 wh, .string nm] w fun e w' => e = .returned (.bool true) ∧ Below w.heap.size w w' := by
  unfold maxLen at hs ht
  have AWK : Hid (∀ w', Below w.heap.size w w' → Calls Tryz.prog 8 #[] w' fun e w'' => e = .returned (.bool true) ∧ Below w'.heap.size w' w'') := fun w' hb => awake_any w' (hT.step hb) (hE.below hb)
  have hwr : IntKind.i64.wrap wh = wh := by rw [IntKind.wrap_i64]; omega
  clear hT hE
  go_enter Tryz.func5, Tryz.ntmps5
  go_wp2_with fail
  refine (lexs_any s (by omega) w).mono ?_
  rintro e w1 ⟨hb, ⟨er, a, her, rfl⟩ | ⟨l, A, ca, hS, rfl⟩⟩
  · have HB := Lib.hid hb
    have z1 : ((er : Int) != 0) = true := by rw [bne_iff_ne]; omega
    have z2 : ((er : Int) == 0) = false := by rw [beq_eq_false_iff_ne]; omega
    clear hb
    go_wp2_with fail
    refine (AWK.out _ HB.out).mono ?_
    rintro e w2 ⟨rfl, hb2⟩
    have HB2 := Lib.hid (step_below HB.out hb2)
    clear hb2
    go_wp2_with fail
    go_ret
    exact ⟨rfl, HB2.out⟩
  have HB := Lib.hid hb
  have HS := Lib.hid hS
  have hl1 := hS.2.2.2.1
  have hs1 := hS.2.1
  clear hb hS
  go_wp2_with fail
  refine (rname_any nm (by omega) w1).mono ?_
  rintro e w2 ⟨rfl, hb⟩
  have HB2 := Lib.hid (step_below HB.out hb)
  have HS2 := Lib.hid (HS.out.below hb)
  cases hN : rnameL nm.data.toList
  · clear hb hN
    go_wp2_with fail
    refine (AWK.out _ HB2.out).mono ?_
    rintro e w3 ⟨rfl, hb2⟩
    have HB3 := Lib.hid (step_below HB2.out hb2)
    clear hb2
    go_wp2_with fail
    go_ret
    exact ⟨rfl, HB3.out⟩
  have HN := Lib.hid (rnameL_nl hN)
  have hn40 := (rnameL_nl hN).2
  clear hb hN
  by_cases h300 : l.length ≤ 300
  · have hz : ¬ (l.length : Int) > 300 := by omega
    have hw12 : w.heap.size ≤ w2.heap.size := HB2.out.size
    go_wp2_with fail
    go_loopg [10, 38] (l.length + 1) (fun kx s10 x wr => ∃ (k : Nat) (wd : ByteArray), s10 = .string wd ∧ x = .int .i64 k ∧ k ≤ l.length ∧ l.length - k ≤ kx ∧ Hid (Found s nm l k wd) ∧ Hid (Below w2.heap.size w2 wr))
    case atStart => exact ⟨0, _, rfl, rfl, by omega, by omega, ⟨fun j _ h => by omega, .inl rfl, Nat.zero_le _⟩, Below.refl _ _⟩
    case round =>
      obtain ⟨k, wd, rfl, rfl, hk, hkx, HF, HBk⟩ := hrel
      by_cases hlt : k < l.length
      · obtain ⟨g, eg, lg, hc⟩ := HS2.out.2.2.1 (by omega)
        obtain ⟨q0, q1, q2, q3⟩ := hc k hlt
        have z0 := (HBk.out.cell (p := ⟨g, k * 4, none⟩) lg).trans q0
        have z1 := (HBk.out.cell (p := ⟨g, k * 4 + 1, none⟩) lg).trans q1
        have z2 := (HBk.out.cell (p := ⟨g, k * 4 + 2, none⟩) lg).trans q2
        have z3 := (HBk.out.cell (p := ⟨g, k * 4 + 3, none⟩) lg).trans q3
        have HSET := Lib.hid (fun hn => HF.out.set HS2.out.1 hlt hn)
        have hwk := HBk.out.size
        generalize l[k] = t at *
        obtain ⟨kd, at0, ld, tx⟩ := t
        dsimp only at *
        have HBa := Lib.hid (HBk.out.alloc hwk (.cells #[.int .i64 kd, .int .i64 at0, .string ld, .string tx] 47))
        have RX := Lib.hid (RowB.new wr 47 #[.int .i64 kd, .int .i64 at0, .string ld, .string tx])
        have rx := RX.out.cell
        subst eg
        have hik : (k : Int) < (l.length : Int) := by omega
        clear hc q0 q1 q2 q3
        by_cases he : tx = nm
        · have d1 : (tx.toList == nm.toList) = true := by rw [he]; simp
          have HBb := Lib.hid (HB2.out.trans (HBa.out.mono hw12))
          clear he
          go_wp2_with fail
          refine (AWK.out _ HBb.out).mono ?_
          rintro e w4 ⟨rfl, hb⟩
          have HB4 := Lib.hid (step_below HBb.out hb)
          clear hb
          go_wp2_with fail
          go_ret
          exact ⟨rfl, HB4.out⟩
        have d1 : (tx.toList == nm.toList) = false := beq_eq_false_iff_ne.2 (fun h => he ((str_eq _ _).1 h))
        obtain ⟨hf1, hf2⟩ := HSET.out he
        have HF1 := Lib.hid hf1
        clear hf1 he HSET HF
        by_cases hkd : kd = 1
        · have d2 : ((kd : Int) == 1) = true := by rw [beq_iff_eq]; omega
          have HF2 := Lib.hid (hf2 hkd)
          clear hf2 hkd
          by_cases hc1 : wd.size = 0
          · obtain rfl : wd = ⟨#[]⟩ := by
              obtain ⟨a⟩ := wd
              have : a = #[] := Array.size_eq_zero_iff.1 hc1
              rw [this]
            clear hc1
            go_wp2_with fail
            go_roundg (l.length - (k + 1))
            case measure => omega
            case rel => exact ⟨k + 1, _, rfl, by go_num, by omega, by omega, HF2.out, HBa.out⟩
          · have hne : wd.toList ≠ [] := by
              rw [ByteArray.toList_eq]
              intro h
              have : wd.data.toList.length = wd.size := len_list wd
              rw [h] at this
              simp at this
              omega
            have e1 : (wd.toList == []) = false := by simpa using hne
            have e2 : wd.toList.isEmpty = false := by simpa using hne
            clear hc1 hne
            by_cases hc2 : (k : Int) ≤ wh
            · go_wp2_with fail
              go_roundg (l.length - (k + 1))
              case measure => omega
              case rel => exact ⟨k + 1, _, rfl, by go_num, by omega, by omega, HF2.out, HBa.out⟩
            · go_wp2_with fail
              go_roundg (l.length - (k + 1))
              case measure => omega
              case rel => exact ⟨k + 1, _, rfl, by go_num, by omega, by omega, HF1.out, HBa.out⟩
        · have d2 : ((kd : Int) == 1) = false := by rw [beq_eq_false_iff_ne]; omega
          clear hf2 hkd
          go_wp2_with fail
          go_roundg (l.length - (k + 1))
          case measure => omega
          case rel => exact ⟨k + 1, _, rfl, by go_num, by omega, by omega, HF1.out, HBa.out⟩
      · obtain rfl : k = l.length := by omega
        have hnl : ¬ (l.length : Int) < (l.length : Int) := by omega
        have HBb := Lib.hid (HB2.out.trans (HBk.out.mono hw12))
        rcases HF.out.wo with rfl | hW
        · go_wp2_with fail
          refine (AWK.out _ HBb.out).mono ?_
          rintro e w4 ⟨rfl, hb⟩
          have HB4 := Lib.hid (step_below HBb.out hb)
          clear hb
          go_wp2_with fail
          go_ret
          exact ⟨rfl, HB4.out⟩
        · have hw0 := hW.1
          have hne : wd.toList ≠ [] := by
            rw [ByteArray.toList_eq]
            intro h
            have : wd.data.toList.length = wd.size := len_list wd
            rw [h] at this
            simp at this
            omega
          have e1 : (wd.toList == []) = false := by simpa using hne
          have e2 : wd.toList.isEmpty = false := by simpa using hne
          have HNO : Hid (∀ t ∈ l, t.text ≠ nm) := fun t ht => by
            obtain ⟨j, hj, rfl⟩ := List.getElem_of_mem ht
            exact HF.out.no j hj hj
          have hwz : wd.size ≤ 16384 := Nat.le_trans HF.out.size hs1
          have HWD := Lib.hid hW
          have HS3 := Lib.hid (HS2.out.below HBk.out)
          clear hne hW HF
          go_wp2_with fail
          obtain ⟨W3, rfl⟩ : ∃ W3, W3 = wr := ⟨_, rfl⟩
          have hwr0 : w.heap.size ≤ W3.heap.size := HBb.out.size
          go_loopg [13, 14, 69] (l.length + 1) (fun kx s13 s14 x wr2 => ∃ (k : Nat) (u v : Value), u = s13 ∧ v = s14 ∧ x = .int .i64 k ∧ k ≤ l.length ∧ l.length - k ≤ kx ∧ Hid (wr2.ownsRow W3.heap.size 47 4 s13 k (cellsL ((l.take k).map (ren wd nm)))) ∧ Hid (wr2.ownsRow W3.heap.size 38 3 s14 (wants wd nm (l.take k)).length (ecells (wants wd nm (l.take k)))) ∧ Hid (Below W3.heap.size W3 wr2))
          case atStart => exact ⟨0, _, _, rfl, rfl, rfl, by omega, by omega, World.ownsRow_nil _ _ _ _, World.ownsRow_nil _ _ _ _, Below.refl _ _⟩
          case round =>
            obtain ⟨k, u, v, rfl, rfl, rfl, hk, hkx, HOU, HOV, HB3⟩ := hrel
            by_cases hlt : k < l.length
            · obtain ⟨g, eg, lg, hc⟩ := HS3.out.2.2.1 (by omega)
              obtain ⟨q0, q1, q2, q3⟩ := hc k hlt
              have z0 := (HB3.out.cell (p := ⟨g, k * 4, none⟩) lg).trans q0
              have z1 := (HB3.out.cell (p := ⟨g, k * 4 + 1, none⟩) lg).trans q1
              have z2 := (HB3.out.cell (p := ⟨g, k * 4 + 2, none⟩) lg).trans q2
              have z3 := (HB3.out.cell (p := ⟨g, k * 4 + 3, none⟩) lg).trans q3
              have hat := (HS3.out.1.size_le _ (List.getElem_mem hlt)).1
              have hws := wants_snoc wd nm hlt
              have hrs := rens_snoc wd nm hlt
              have hlv : (wants wd nm (l.take k)).length ≤ 300 := by
                have := wants_len wd nm (l.take k)
                rw [List.length_take] at this
                omega
              have hw3 := HB3.out.size
              generalize l[k] = t at *
              obtain ⟨kd, at0, ld, tx⟩ := t
              dsimp only at *
              generalize (l.take k).map (ren wd nm) = LU at *
              generalize wants wd nm (l.take k) = LV at *
              have HWS := Lib.hid hws
              have HRS := Lib.hid hrs
              have RX := Lib.hid (RowB.new wr 47 #[.int .i64 kd, .int .i64 at0, .string ld, .string tx])
              have OUa := Lib.hid (HOU.out.alloc (.cells #[.int .i64 kd, .int .i64 at0, .string ld, .string tx] 47))
              have OVa := Lib.hid (HOV.out.alloc (.cells #[.int .i64 kd, .int .i64 at0, .string ld, .string tx] 47))
              have HBa := Lib.hid (HB3.out.alloc hw3 (.cells #[.int .i64 kd, .int .i64 at0, .string ld, .string tx] 47))
              have hnu : u.ownBlock ≠ some wr.heap.size := fun h => by have := (HOU.out.lt _ h).2; omega
              have HNU := Lib.hid hnu
              have hnv : v.ownBlock ≠ some wr.heap.size := fun h => by have := (HOV.out.lt _ h).2; omega
              have HNV := Lib.hid hnv
              have rx := RX.out.cell
              subst eg
              have hik : (k : Int) < (l.length : Int) := by omega
              clear hc q0 q1 q2 q3 hws hrs hnu hnv
              go_upto_if 76 with fail
              go_cut [14, 69] from 69 to 95 (fun s14 s69 wx => s69 = .int .i64 k ∧ Hid (wx.ownsRow W3.heap.size 47 4 u k (cellsL LU)) ∧ Hid (wx.ownsRow W3.heap.size 38 3 s14 (wants wd nm (l.take (k + 1))).length (ecells (wants wd nm (l.take (k + 1))))) ∧ Hid (RowB wx wr.heap.size 47 #[.int .i64 kd, .int .i64 at0, .string ld, .string (ren1 wd nm tx)]) ∧ Hid (Below W3.heap.size W3 wx))
              case first =>
                by_cases he : tx = wd
                · have d1 : (tx.toList == wd.toList) = true := by rw [he]; simp
                  rw [d1]
                  clear d1
                  have hr1 : ren1 wd nm tx = nm := by simp [ren1, he]
                  have hw1 : want1 wd nm ⟨kd, at0, ld, tx⟩ = [⟨(at0 : Int), ((at0 + wd.size : Nat) : Int), nm⟩] := by simp [want1, he]
                  obtain ⟨ed, hed⟩ : ∃ ed : Int, ed = ((at0 + wd.size : Nat) : Int) := ⟨_, rfl⟩
                  have e3 : IntKind.i64.wrap ((at0 : Int) + (wd.size : Int)) = ed := by rw [IntKind.wrap_i64]; omega
                  rw [← hed] at hw1
                  have hws := HWS.out
                  rw [hw1] at hws
                  have HWN := Lib.hid hws
                  have HR1 := Lib.hid hr1
                  obtain ⟨i0, hi0, hz0, hz1, hz2⟩ := info_parts info38
                  have OUb := Lib.hid (OUa.out.alloc (.cells #[.int .i64 at0, .int .i64 ed, .string nm] 38))
                  have OVb := Lib.hid (OVa.out.alloc (.cells #[.int .i64 at0, .int .i64 ed, .string nm] 38))
                  have HBb2 := Lib.hid (HBa.out.alloc HBa.out.size (.cells #[.int .i64 at0, .int .i64 ed, .string nm] 38))
                  have RXb := Lib.hid (RX.out.alloc (.cells #[.int .i64 at0, .int .i64 ed, .string nm] 38))
                  have CN := Lib.hid (cells_ed (wr.alloc (.cells #[.int .i64 kd, .int .i64 at0, .string ld, .string tx] 47)) (.int .i64 at0) (.int .i64 ed) (.string nm))
                  have b5 := Lib.hid HBb2.out.size
                  have b3 : LV.length + 1 ≤ maxLen := by unfold maxLen; omega
                  have b4 : (LV.length + 1) * 32 ≤ 140737488355328 := by omega
                  clear he hr1 hw1 hed hws
                  go_wp2_with (at_builtin; refine wpList_append_own _ rfl (.tmp 77) (.tmp 87) 26 rfl W3.heap.size 38 i0 (.agg #[.int .i64 0, .int .i64 0, .string ⟨#[]⟩]) 3 32 Tryz.underlying26 hi0 hz0 hz1 hz2 rfl (by decide) _ _ _ rfl OVb.out ⟨wr.heap.size + 1, 0, none⟩ 1 1 [.int .i64 at0, .int .i64 ed, .string nm] rfl rfl (by simpa using CN.out) (one_ed _ _ _) b3 b4 b5.out ?_)
                  intro v' w3 hown' hgrow _
                  have RX3 := Lib.hid (RXb.out.grown hgrow (fun h => HNV.out h.symm))
                  have OU3 := Lib.hid (OUb.out.kept hgrow (own_apart OUb.out OVb.out (by decide)))
                  have HB4 := Lib.hid (HBb2.out.grown hgrow b5.out (fun c hc => (OVb.out.lt c hc).1))
                  have OV3 := Lib.hid hown'
                  have rx3 := RX3.out.cell
                  have rf3 := RX3.out.thaw
                  clear hown' hgrow b3 b4 b5 CN rx
                  go_wp2_with fail
                  go_meet
                  refine ⟨rfl, ownsRow_setCell_other OU3.out (a := ⟨wr.heap.size, 3, none⟩) HNU.out _, ?_, ?_, HB4.out.setCell (p := ⟨wr.heap.size, 3, none⟩) hw3 _⟩
                  · rw [HWN.out, ecells_snoc, List.length_append]
                    exact ownsRow_setCell_other OV3.out (a := ⟨wr.heap.size, 3, none⟩) (own_rowb OV3.out RX3.out (by decide)) _
                  · rw [HR1.out]
                    exact RX3.out.put 3 _
                · have d1 : (tx.toList == wd.toList) = false := beq_eq_false_iff_ne.2 (fun h => he ((str_eq _ _).1 h))
                  rw [d1]
                  clear d1
                  have hnb : ¬ byt tx = byt wd := fun h => he (byt_inj h)
                  have hr1 : ren1 wd nm tx = tx := by simp [ren1, hnb]
                  have hws := HWS.out
                  rw [show want1 wd nm ⟨kd, at0, ld, tx⟩ = [] by simp [want1, hnb], List.append_nil] at hws
                  have HWN := Lib.hid hws
                  have HR1 := Lib.hid hr1
                  clear he hr1 hws hnb
                  go_wp2_with fail
                  go_meet
                  exact ⟨rfl, OUa.out, by rw [HWN.out]; exact OVa.out, by rw [HR1.out]; exact RX.out, HBa.out⟩
              case rest =>
              obtain ⟨rfl, OU4, OV4, RX4, HB4⟩ := hcut
              have hrn : ren wd nm ⟨kd, at0, ld, tx⟩ = ⟨kd, at0, ld, ren1 wd nm tx⟩ := rfl
              have hrs := HRS.out
              rw [hrn] at hrs
              have HRN := Lib.hid hrs
              generalize ren1 wd nm tx = tn at *
              obtain ⟨i0, hi0, hz0, hz1, hz2⟩ := info_parts info47
              have OU5 := Lib.hid (OU4.out.alloc (.cells #[.int .i64 kd, .int .i64 at0, .string ld, .string tn] 47))
              have OV5 := Lib.hid (OV4.out.alloc (.cells #[.int .i64 kd, .int .i64 at0, .string ld, .string tn] 47))
              have HB5 := Lib.hid (HB4.out.alloc HB4.out.size (.cells #[.int .i64 kd, .int .i64 at0, .string ld, .string tn] 47))
              have CN := Lib.hid (cells_tok wc (.int .i64 kd) (.int .i64 at0) (.string ld) (.string tn))
              have b5 := Lib.hid HB5.out.size
              have b3 : k + 1 ≤ maxLen := by unfold maxLen; omega
              have b4 : (k + 1) * 48 ≤ 140737488355328 := by omega
              have rx4 := RX4.out.cell
              clear hrs hrn rx
              go_wp2_with (at_builtin; refine wpList_append_own _ rfl (.tmp 91) (.tmp 93) 22 rfl W3.heap.size 47 i0 (.agg #[.int .i64 0, .int .i64 0, .string ⟨#[]⟩, .string ⟨#[]⟩]) 4 48 Tryz.underlying22 hi0 hz0 hz1 hz2 rfl (by decide) _ _ _ rfl OU5.out ⟨wc.heap.size, 0, none⟩ 1 1 [.int .i64 kd, .int .i64 at0, .string ld, .string tn] rfl rfl CN.out (one_tok _ _ _ _) b3 b4 b5.out ?_)
              intro u' w6 hown' hgrow _
              have OV6 := Lib.hid (OV5.out.kept hgrow (own_apart OV5.out OU5.out (by decide)))
              have HB6 := Lib.hid (HB5.out.grown hgrow b5.out (fun c hc => (OU5.out.lt c hc).1))
              have OU6 : Hid (w6.ownsRow W3.heap.size 47 4 u' (k + 1) (cellsL ((l.take (k + 1)).map (ren wd nm)))) := by
                unfold Hid; rw [HRN.out, cellsL_snoc]; exact hown'
              clear hown' hgrow b3 b4 b5 CN rx4
              go_wp2_with fail
              go_roundg (l.length - (k + 1))
              case measure => omega
              case rel => exact ⟨k + 1, u', _, rfl, rfl, by go_num, by omega, by omega, OU6.out, OV6.out, HB6.out⟩
            · obtain rfl : k = l.length := by omega
              have hnl : ¬ (l.length : Int) < (l.length : Int) := by omega
              have hou := HOU.out
              have hov := HOV.out
              rw [List.take_length] at hou hov
              obtain ⟨BU, cu, rfl, hcu⟩ := own_frm hou
              obtain ⟨BV, cv, rfl, hcv⟩ := own_frm hov
              have HTB := Lib.hid (TokAt.of_own hou (by rw [List.length_map])).1
              have HEV := Lib.hid (Eds.of_own hov rfl)
              have HB4 := Lib.hid (HBb.out.trans (HB3.out.mono hwr0))
              have HS4 := Lib.hid (HS3.out.below HB3.out)
              have hwl := wants_len wd nm l
              clear hou hov HOU HOV hnl
              have hnl : ¬ (l.length : Int) < (l.length : Int) := by omega
              go_wp2_with fail
              refine (AWK.out _ HB4.out).mono ?_
              rintro e w5 ⟨rfl, hb⟩
              have HB5 := Lib.hid (step_below HB4.out hb)
              have HS5 := Lib.hid (HS4.out.below hb)
              have HTB5 := Lib.hid (HTB.out.below hb)
              have HEV5 := Lib.hid ((HEV.out.below hb).more hb.size)
              clear hb HTB HEV
              go_wp2_with fail
              refine (betn_any s l wd nm A BU ca cu w5 HS5.out HTB5.out hcu HWD.out HN.out.1 hn40 HNO.out h300).mono ?_
              rintro e w6 ⟨X, cx, rfl, hEX, hcx, hb⟩
              have HB6 := Lib.hid (step_below HB5.out hb)
              have HEV6 := Lib.hid ((HEV5.out.below hb).more hb.size)
              have HEX := Lib.hid hEX
              clear hb hEX HEV5 HTB5
              go_wp2_with fail
              refine (rsame_any (wants wd nm l) X BV cx cv w6 HEX.out HEV6.out (by omega) hcx hcv).mono ?_
              rintro e w7 ⟨rfl, hb⟩
              have HB7 := Lib.hid (step_below HB6.out hb)
              clear hb
              go_wp2_with fail
              go_ret
              exact ⟨by simp, HB7.out⟩
  · have hz : (l.length : Int) > 300 := by omega
    clear h300
    go_wp2_with fail
    refine (AWK.out _ HB2.out).mono ?_
    rintro e w3 ⟨rfl, hb2⟩
    have HB3 := Lib.hid (step_below HB2.out hb2)
    clear hb2
    go_wp2_with fail
    go_ret
    exact ⟨rfl, HB3.out⟩
end Go.Proofs.YthbmnnnlkgbieaaGreatDoor
