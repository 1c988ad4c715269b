/- Contracts: the document's Lex: the tokens of a text. -/
import Derived.Test.YthlkjfkgdijfdaaGreatDoorLE
namespace Go.Proofs.YthlkjfkgdijfdaaGreatDoor
open Go.RowKit
/-- What is answered. -/
def RL (r : LexR) (w : World) (e : Ending) (w' : World) : Prop :=
  Below w.heap.size w w' ∧ match r with
    | .good l => ∃ v, e = .returned (.tuple #[v, .int .i64 0, .int .i64 0]) ∧ w'.ownsRow w.heap.size 48 4 v l.length (cellsL l) ∧ l.length ≤ 4000
    | .bad er a => e = .returned (.tuple #[.slice none 0 0, .int .i64 er, .int .i64 a])
theorem RL.bad {r : LexR} {w w' : World} {er a : Int} (h : r = .bad er a) (hb : Below w.heap.size w w') : RL r w (.returned (.tuple #[.slice none 0 0, .int .i64 er, .int .i64 a])) w' := by
  rw [h]; exact ⟨hb, rfl⟩
theorem RL.good {r : LexR} {w w' : World} {l : List Tok} {v : Value} (h : r = .good l) (hb : Below w.heap.size w w') (ho : w'.ownsRow w.heap.size 48 4 v l.length (cellsL l)) (hl : l.length ≤ 4000) : RL r w (.returned (.tuple #[v, .int .i64 0, .int .i64 0])) w' := by
  rw [h]; exact ⟨hb, v, rfl, ho, hl⟩
theorem oneX_out (s : ByteArray) (k a : Nat) (ha : a = atK s k) (hlt : a < s.size) : (errK s k ≠ 0 ∧ oneX s a = (0, 0, errK s k)) ∨ (errK s k = 0 ∧ ∃ kd en, oneX s a = (kd, en, 0) ∧ kd = (tokK s k).kind ∧ kd ≠ 0 ∧ en = endK s k ∧ a < en ∧ en ≤ s.size ∧ tokK s k = ⟨kd, a, s.extract k a, s.extract a en⟩) := by
  have e : errK0 s a = errK s k := by unfold errK0 errK; rw [ha]
  by_cases he : errK s k = 0
  · have hk0 : (tokK s k).kind ≠ 0 := by
      intro h
      have h1 := (first_kind (tl s (atK s k)) he).1.1 h
      rw [← ha] at h1
      exact tl_ne s a hlt h1
    have hp := tok_pos s k he hk0
    have hle : endK s k ≤ s.size := by
      have h1 := first_le (tl s (atK s k))
      rw [tl_len] at h1
      unfold endK
      omega
    refine .inr ⟨he, (tokK s k).kind, endK s k, ?_, rfl, hk0, rfl, by rw [ha]; exact hp, hle, ?_⟩
    · unfold oneX
      rw [e, if_pos he, ha]
      rfl
    · rw [ha]; rfl
  · refine .inl ⟨he, ?_⟩
    unfold oneX
    rw [e, if_neg he]
theorem oneX_end (s : ByteArray) (k : Nat) (ha : atK s k = s.size) : errK s k = 0 ∧ tokK s k = ⟨0, s.size, s.extract k s.size, s.extract s.size s.size⟩ := by
  have e : tl s (atK s k) = [] := tl_end s _ (by omega)
  have f : firstL (tl s (atK s k)) = (0, 0, 0) := by rw [e]; rfl
  refine ⟨by unfold errK; rw [f], ?_⟩
  unfold tokK
  rw [f, ha]
  rfl
theorem below_put {w w' : World} {g : Nat} (h : Below w.heap.size w w') (hg : w.heap.size ≤ g) (i : Nat) (u : Value) : Below w.heap.size w (w'.setCell ⟨g, i, none⟩ u) := h.setCell hg u

set_option maxHeartbeats 4000000 in
set_option maxRecDepth 100000 in
theorem rlex_any (s : ByteArray) (hs : s.size ≤ 16384) (hg : badAt s.data.toList = none) (w : World) :
    Calls Tryz.prog 19 #[.string s] w (RL (lexF s (s.size + 1) 0 0) w) := by
  obtain ⟨r, hr⟩ : ∃ r, r = lexF s (s.size + 1) 0 0 := ⟨_, rfl⟩
  rw [← hr]
  have HR0 : Hid (r = (lexF s (s.size + 1) 0 0).pre []) := by unfold Hid; rw [hr]; cases lexF s (s.size + 1) 0 0 <;> rfl
  clear hr
  obtain ⟨i0, hi, hz0, hz1, hz2⟩ := info_parts info47
  have c := rbad_any s w (by omega)
  rw [badI_none hg] at c
  have hsz : ¬ (s.size : Int) > 16384 := by omega
  have C := Lib.hid c
  have B0 := Lib.hid (Below.refl w.heap.size w)
  clear c hg
  go_enter Tryz.func19, Tryz.ntmps19
  go_wp2_with fail
  refine C.out.mono ?_
  rintro e w1 ⟨rfl, rfl⟩
  go_wp2_with fail
  go_loopg [6, 7] (s.size + 1) (fun kx v x wr => ∃ (k n : Nat) (D : List Tok) (u : Value), u = v ∧ x = .int .i64 k ∧ k ≤ s.size ∧ s.size + 1 - k ≤ kx ∧ n ≤ 4000 ∧ Hid (n = D.length) ∧ Hid (∃ f, s.size + 1 - k ≤ f ∧ r = (lexF s f k n).pre D) ∧ wr.ownsRow w.heap.size 48 4 u n (cellsL D) ∧ Below w.heap.size w wr)
  case atStart => exact ⟨0, 0, [], _, rfl, rfl, by omega, by omega, by omega, rfl, ⟨s.size + 1, by omega, HR0.out⟩, World.ownsRow_nil _ _ _ _, B0.out⟩
  case round =>
    obtain ⟨k, n, D, u, rfl, rfl, hk, hkx, hn, HD, HU, hown, hnx⟩ := hrel
    go_wp2_with fail
    refine (lead_any s k wr (by omega) hk).mono ?_
    rintro e w2 ⟨rfl, hb2⟩
    obtain ⟨ha1, ha2⟩ := atK_le s k hk
    have hown2 := own_below hown hb2
    have hnx2 := step_below hnx hb2
    have hltu := hown2.lt
    obtain ⟨A, cap, rfl⟩ := own_slice hown2
    obtain ⟨a, haa⟩ : ∃ a, a = atK s k := ⟨_, rfl⟩
    rw [← haa] at ha1 ha2
    rw [← haa]
    have hgt : ∀ h, (Value.slice A n cap).ownBlock = some h → h < w2.heap.size := fun h e => (hltu h e).2
    have HA := Lib.hid haa
    clear haa
    obtain ⟨ld, hld⟩ : ∃ ld, ld = s.extract k a := ⟨_, rfl⟩
    have R0 := Lib.hid (RowB.new w2 48 #[.int .i64 0, .int .i64 a, .string ld, .string ⟨#[]⟩])
    have B2 := Lib.hid (hnx2.alloc hnx2.size (.cells #[.int .i64 0, .int .i64 a, .string ld, .string ⟨#[]⟩] 48))
    have O2 := Lib.hid (hown2.alloc (.cells #[.int .i64 0, .int .i64 a, .string ld, .string ⟨#[]⟩] 48))
    have HL := Lib.hid hld
    clear hown hown2 hb2 hltu hld
    have hal : a ≤ s.size := by omega
    by_cases hlt : a < s.size
    · go_wp2_with fail
      rw [← HL.out]
      obtain ⟨W, hW⟩ : ∃ W, W = w2.alloc (.cells #[.int .i64 0, .int .i64 a, .string ld, .string ⟨#[]⟩] 48) := ⟨_, rfl⟩
      rw [← hW] at R0 B2 O2
      rw [← hW]
      refine (one_any s a _ (by omega) hlt).mono ?_
      rintro e w3 ⟨ho, hb3⟩
      have R3 := R0.out.below hb3 R0.out.lt
      have O3 := own_below O2.out hb3
      have B3 := step_below B2.out hb3
      rcases oneX_out s k a HA.out hlt with ⟨her, hoe⟩ | ⟨he0, kd, en, hoe, hkd, hk1, hen, hae, hes, htok⟩
      · obtain ⟨er, hee⟩ : ∃ er, er = errK s k := ⟨_, rfl⟩
        rw [hoe, ← hee] at ho
        obtain rfl : e = .returned (.tuple #[.int .i64 0, .int .i64 0, .int .i64 (er : Int)]) := ho
        have HB3 := Lib.hid B3
        have HRR : Hid (r = .bad (er : Int) (a : Int)) := by
          obtain ⟨f, hf, h⟩ := HU.out
          cases f with
          | zero => omega
          | succ f => rw [lexF_err her, ← hee, ← HA.out] at h; exact h
        rw [← hee] at her
        have z1 : ((er : Int) != 0) = true := by rw [bne_iff_ne]; omega
        have z2 : ((er : Int) == 0) = false := by rw [beq_eq_false_iff_ne]; omega
        clear hee hoe
        clear R3 O3 B3 hb3 hW
        go_wp2_with fail
        go_ret3
        exact RL.bad HRR.out HB3.out
      · rw [hoe] at ho
        obtain rfl : e = .returned (.tuple #[.int .i64 (kd : Int), .int .i64 (en : Int), .int .i64 0]) := ho
        clear hoe
        obtain ⟨q0, q1, q2, q3⟩ : w3.cell? ⟨w2.heap.size, 0, none⟩ = some (.int .i64 0) ∧ w3.cell? ⟨w2.heap.size, 1, none⟩ = some (.int .i64 a) ∧ w3.cell? ⟨w2.heap.size, 2, none⟩ = some (.string ld) ∧ w3.cell? ⟨w2.heap.size, 3, none⟩ = some (.string ⟨#[]⟩) := ⟨R3.cell 0, R3.cell 1, R3.cell 2, R3.cell 3⟩
        obtain ⟨f0, f3⟩ : w3.frozen? ⟨w2.heap.size, 0, none⟩ = false ∧ w3.frozen? ⟨w2.heap.size, 3, none⟩ = false := ⟨R3.thaw 0, R3.thaw 3⟩
        have HR3 := Lib.hid R3
        have HO3 := Lib.hid O3
        have HB3 := Lib.hid B3
        have HTK := Lib.hid htok
        have HEN := Lib.hid hen
        have HKD := Lib.hid hkd
        have HE0 := Lib.hid he0
        clear R3 O3 B3 hb3 hW htok hen hkd he0
        by_cases hmany : n = 4000
        · have z1 : (n : Int) ≥ 4000 := by omega
          have HRR : Hid (r = .bad 5 (a : Int)) := by
            obtain ⟨f, hf, h⟩ := HU.out
            subst hmany
            cases f with
            | zero => omega
            | succ f => rw [lexF_many HE0.out, ← HA.out] at h; exact h
          go_wp2_with fail
          go_ret3
          exact RL.bad HRR.out (below_put HB3.out hnx2.size 0 _)
        · have z1 : ¬ (n : Int) ≥ 4000 := by omega
          obtain ⟨tx, htx⟩ : ∃ tx, tx = s.extract a en := ⟨_, rfl⟩
          have hne : (Value.slice A n cap).ownBlock ≠ some w2.heap.size := fun h => by have := hgt _ h; omega
          obtain ⟨X, hX⟩ : ∃ X, X = (w3.setCell ⟨w2.heap.size, 0, none⟩ (.int .i64 kd)).setCell ⟨w2.heap.size, 3, none⟩ (.string tx) := ⟨_, rfl⟩
          have OX : X.ownsRow w.heap.size 48 4 (.slice A n cap) n (cellsL D) := by
            rw [hX]
            exact ownsRow_setCell_other (ownsRow_setCell_other HO3.out (a := ⟨w2.heap.size, 0, none⟩) hne _) (a := ⟨w2.heap.size, 3, none⟩) hne _
          have RX : RowB X w2.heap.size 48 #[.int .i64 kd, .int .i64 a, .string ld, .string tx] := by
            rw [hX]
            exact (HR3.out.put 0 _).put 3 _
          have BX : Below w.heap.size w X := by rw [hX]; exact below_put (below_put HB3.out hnx2.size 0 _) hnx2.size 3 _
          have hXs : X.heap.size = w3.heap.size := by rw [hX]; simp [World.setCell]
          have HXs := Lib.hid hXs
          have BX2 := Lib.hid (BX.alloc BX.size (.cells #[.int .i64 kd, .int .i64 a, .string ld, .string tx] 48))
          have RX2 := Lib.hid (RX.alloc (.cells #[.int .i64 kd, .int .i64 a, .string ld, .string tx] 48))
          have OX2 := Lib.hid (OX.alloc (.cells #[.int .i64 kd, .int .i64 a, .string ld, .string tx] 48))
          have C1 := Lib.hid (cells_tok X (.int .i64 kd) (.int .i64 a) (.string ld) (.string tx))
          have b5 : Hid (w.heap.size ≤ (X.alloc (.cells #[.int .i64 kd, .int .i64 a, .string ld, .string tx] 48)).heap.size) := BX2.out.size
          have b3 : n + 1 ≤ maxLen := by unfold maxLen; omega
          have b4 : (n + 1) * 48 ≤ 140737488355328 := by omega
          have HTX := Lib.hid htx
          have HGT := Lib.hid hgt
          have HNM := Lib.hid hmany
          rw [hX, htx] at OX2 C1 BX2 RX2 b5
          clear OX RX BX hXs hX htx hgt hne HR3 HO3 HB3 hmany
          go_wp2_with (at_builtin; refine wpList_append_own _ rfl (.tmp 61) (.tmp 63) 22 rfl w.heap.size 48 i0 (.agg #[.int .i64 0, .int .i64 0, .string ⟨#[]⟩, .string ⟨#[]⟩]) 4 48 Tryz.underlying22 hi hz0 hz1 hz2 rfl (by decide) _ _ _ rfl OX2.out ⟨w3.heap.size, 0, none⟩ 1 1 [.int .i64 kd, .int .i64 a, .string ld, .string (s.extract a en)] rfl rfl (by simpa [World.setCell] using C1.out) (one_tok _ _ _ _) b3 b4 b5.out ?_)
          intro v' w4 hown' hgrow _
          have R4 := Lib.hid (RX2.out.grown hgrow (fun h => by have := HGT.out _ h.symm; omega))
          have B4 := Lib.hid (BX2.out.grown hgrow b5.out (fun j hj => (OX2.out.lt j hj).1))
          have O4 : Hid (w4.ownsRow w.heap.size 48 4 v' (n + 1) (cellsL (D ++ [⟨kd, a, ld, s.extract a en⟩]))) := by
            unfold Hid; rw [cellsL_snoc]; exact hown'
          have z2 : ((kd : Int) == 0) = false := by rw [beq_eq_false_iff_ne]; omega
          have q0' : w4.cell? ⟨w2.heap.size, 0, none⟩ = some (.int .i64 kd) := R4.out.cell 0
          have HU2 : Hid (∃ f, s.size + 1 - en ≤ f ∧ r = (lexF s f en (n + 1)).pre (D ++ [⟨kd, a, ld, s.extract a en⟩])) := by
            obtain ⟨f, hf, h⟩ := HU.out
            cases f with
            | zero => omega
            | succ f =>
              rw [lexF_next HE0.out HNM.out (by rw [← HKD.out]; exact hk1), ← HEN.out, pre_pre, HTK.out] at h
              exact ⟨f, by omega, by rw [h, HL.out]⟩
          have hn1 : n + 1 ≤ 4000 := by have := HNM.out; omega
          clear hown' hgrow b3 b4 b5 C1 OX2 BX2 RX2 q0 q1 q2 q3 f0 f3
          go_wp2_with fail
          go_roundg (s.size + 1 - en)
          case measure => omega
          case rel => exact ⟨en, n + 1, _, _, rfl, rfl, hes, by omega, hn1, by show _ = _; rw [List.length_append, ← HD.out]; rfl, HU2.out, O4.out, B4.out⟩
    · obtain rfl : a = s.size := by omega
      have hnl : ¬ (s.size : Int) < (s.size : Int) := by omega
      obtain ⟨w3, hW⟩ : ∃ W, W = w2.alloc (.cells #[.int .i64 0, .int .i64 s.size, .string ld, .string ⟨#[]⟩] 48) := ⟨_, rfl⟩
      have HW := Lib.hid hW
      rw [← hW] at R0 B2 O2
      clear hW
      obtain ⟨q0, q1, q2, q3⟩ : w3.cell? ⟨w2.heap.size, 0, none⟩ = some (.int .i64 0) ∧ w3.cell? ⟨w2.heap.size, 1, none⟩ = some (.int .i64 s.size) ∧ w3.cell? ⟨w2.heap.size, 2, none⟩ = some (.string ld) ∧ w3.cell? ⟨w2.heap.size, 3, none⟩ = some (.string ⟨#[]⟩) := ⟨R0.out.cell 0, R0.out.cell 1, R0.out.cell 2, R0.out.cell 3⟩
      obtain ⟨f0, f3⟩ : w3.frozen? ⟨w2.heap.size, 0, none⟩ = false ∧ w3.frozen? ⟨w2.heap.size, 3, none⟩ = false := ⟨R0.out.thaw 0, R0.out.thaw 3⟩
      by_cases hmany : n = 4000
      · have z1 : (n : Int) ≥ 4000 := by omega
        have B2' := B2.out
        rw [HW.out] at B2'
        have HB2 := Lib.hid B2'
        have HRR : Hid (r = .bad 5 (s.size : Int)) := by
          obtain ⟨f, hf, h⟩ := HU.out
          subst hmany
          cases f with
          | zero => omega
          | succ f => rw [lexF_many (oneX_end s k HA.out.symm).1, ← HA.out] at h; exact h
        clear B2'
        go_wp2_with fail
        go_ret3
        exact RL.bad HRR.out (by first | exact HB2.out | (rw [← HL.out]; exact HB2.out))
      · have z1 : ¬ (n : Int) ≥ 4000 := by omega
        have OX : (w2.alloc (.cells #[.int .i64 0, .int .i64 s.size, .string (s.extract k s.size), .string ByteArray.empty] 48)).ownsRow w.heap.size 48 4 (.slice A n cap) n (cellsL D) := by
          have := O2.out; rw [HW.out, HL.out] at this; exact this
        have RX : RowB (w2.alloc (.cells #[.int .i64 0, .int .i64 s.size, .string (s.extract k s.size), .string ByteArray.empty] 48)) w2.heap.size 48 #[.int .i64 0, .int .i64 s.size, .string (s.extract k s.size), .string ByteArray.empty] := RowB.new _ _ _
        have BX : Below w.heap.size w (w2.alloc (.cells #[.int .i64 0, .int .i64 s.size, .string (s.extract k s.size), .string ByteArray.empty] 48)) := by
          have := B2.out; rw [HW.out, HL.out] at this; exact this
        have BX2 := Lib.hid (BX.alloc BX.size (.cells #[.int .i64 0, .int .i64 s.size, .string (s.extract k s.size), .string ByteArray.empty] 48))
        have RX2 := Lib.hid (RX.alloc (.cells #[.int .i64 0, .int .i64 s.size, .string (s.extract k s.size), .string ByteArray.empty] 48))
        have OX2 := Lib.hid (OX.alloc (.cells #[.int .i64 0, .int .i64 s.size, .string (s.extract k s.size), .string ByteArray.empty] 48))
        have C1 := Lib.hid (cells_tok (w2.alloc (.cells #[.int .i64 0, .int .i64 s.size, .string (s.extract k s.size), .string ByteArray.empty] 48)) (.int .i64 0) (.int .i64 s.size) (.string (s.extract k s.size)) (.string ByteArray.empty))
        have b5 : Hid (w.heap.size ≤ ((w2.alloc (.cells #[.int .i64 0, .int .i64 s.size, .string (s.extract k s.size), .string ByteArray.empty] 48)).alloc (.cells #[.int .i64 0, .int .i64 s.size, .string (s.extract k s.size), .string ByteArray.empty] 48)).heap.size) := BX2.out.size
        have b3 : n + 1 ≤ maxLen := by unfold maxLen; omega
        have b4 : (n + 1) * 48 ≤ 140737488355328 := by omega
        have HGT := Lib.hid hgt
        have HNM := Lib.hid hmany
        have HE := Lib.hid (show s.extract s.size s.size = ByteArray.empty by simp)
        clear OX RX BX hgt hmany q0 q1 q2 q3 f0 f3 R0 B2 O2 HW
        clear w3
        go_wp2_with (at_builtin; refine wpList_append_own _ rfl (.tmp 61) (.tmp 63) 22 rfl w.heap.size 48 i0 (.agg #[.int .i64 0, .int .i64 0, .string ⟨#[]⟩, .string ⟨#[]⟩]) 4 48 Tryz.underlying22 hi hz0 hz1 hz2 rfl (by decide) _ _ _ rfl OX2.out ⟨w2.heap.size + 1, 0, none⟩ 1 1 [.int .i64 0, .int .i64 s.size, .string (s.extract k s.size), .string ByteArray.empty] rfl rfl (by simpa using C1.out) (one_tok _ _ _ _) b3 b4 b5.out ?_)
        intro v' w4 hown' hgrow _
        have R4 := Lib.hid (RX2.out.grown hgrow (fun h => by have := HGT.out _ h.symm; omega))
        have B4 := Lib.hid (BX2.out.grown hgrow b5.out (fun j hj => (OX2.out.lt j hj).1))
        have O4 : Hid (w4.ownsRow w.heap.size 48 4 v' (n + 1) (cellsL (D ++ [⟨0, s.size, s.extract k s.size, s.extract s.size s.size⟩]))) := by
          unfold Hid; rw [cellsL_snoc, HE.out]; exact hown'
        have q0' : w4.cell? ⟨w2.heap.size, 0, none⟩ = some (.int .i64 0) := R4.out.cell 0
        have HF : Hid (r = .good (D ++ [⟨0, s.size, s.extract k s.size, s.extract s.size s.size⟩])) := by
          obtain ⟨f, hf, h⟩ := HU.out
          obtain ⟨h1, h2⟩ := oneX_end s k HA.out.symm
          cases f with
          | zero => omega
          | succ f => rw [lexF_end h1 HNM.out (by rw [h2]), h2] at h; exact h
        have hn1 : n + 1 ≤ 4000 := by have := HNM.out; omega
        clear hown' hgrow b3 b4 b5 C1 OX2 BX2 RX2
        go_wp2_with fail
        go_ret3
        exact RL.good HF.out B4.out (by rw [List.length_append, ← HD.out]; exact O4.out) (by rw [List.length_append, ← HD.out]; exact hn1)
end Go.Proofs.YthlkjfkgdijfdaaGreatDoor
