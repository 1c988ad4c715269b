import Derived.Test.YthjflofcgdfekaaGreatDoorMAZ
import Derived.Test.YthjflofcgdfekaaGreatDoorMAW
import Derived.Deep.RegionHeld3
namespace Go.Proofs.YthjflofcgdfekaaGreatDoor
open Go.RowKit
namespace Pg
open Ps
set_option maxHeartbeats 2000000 in
theorem end_raw (X : Cx) (v1 v2 v3 : Value) (w : World) (hr : RowB w X.rb 220 #[.slice X.A X.l.length X.c, v1, v2, v3]) (h1 : lastI X + 1 = X.l.length) (h2 : X.l.length ≤ 4000) :
    Calls Tryz.prog 168 #[X.p] w fun e w' => e = .returned (.int .i64 (lastI X : Int)) ∧ ∃ n, w' = w.drewN n := by
  have rr := hr.cell
  have e1 : IntKind.i64.wrap ((X.l.length : Int) - 1) = (lastI X : Int) := by rw [IntKind.wrap_i64]; omega
  clear hr h1
  go_enter Tryz.func168, Tryz.ntmps168
  go_wp2_with fail
  go_ret
  exact ⟨rfl, 0, rfl⟩
theorem end_rawB (X : Cx) (v1 v2 v3 : Value) (w : World) (hr : RowB w X.rb 220 #[.slice X.A X.l.length X.c, v1, v2, v3]) (h1 : lastI X + 1 = X.l.length) (h2 : X.l.length ≤ 4000) :
    Calls Tryz.prog 168 #[X.p] w fun e w' => e = .returned (.int .i64 (lastI X : Int)) ∧ Below w.heap.size w w' := (end_raw X v1 v2 v3 w hr h1 h2).mono fun e w' ⟨h, n, hn⟩ => ⟨h, by rw [hn]; exact below_drewN (Below.refl _ _) n⟩
theorem end_q (X : Cx) (s : Sd) (w : World) (hS : PSt X w s) :
    Calls Tryz.prog 168 #[X.p] w fun e w' => e = .returned (.int .i64 (lastI X : Int)) ∧ ∃ n, w' = w.drewN n := end_raw X _ _ _ w hS.row hS.last hS.len.2
theorem end_any (X : Cx) (s : Sd) (w : World) (hS : PSt X w s) :
    Calls Tryz.prog 168 #[X.p] w fun e w' => e = .returned (.int .i64 (lastI X : Int)) ∧ Below w.heap.size w w' := (end_q X s w hS).mono fun e w' ⟨h, n, hn⟩ => ⟨h, by rw [hn]; exact below_drewN (Below.refl _ _) n⟩
set_option maxHeartbeats 2000000 in
theorem tells_any (X : Cx) (s : Sd) (i : Nat) (x : ByteArray) (w : World) (hS : PSt X w s) (hi : i < X.l.length) (hx : x.data.toList ∈ lits) :
    Calls Tryz.prog 247 #[X.p, .int .i64 i, .string x] w fun e w' => e = .returned (.bool (isM X.l i x.data.toList)) ∧ Below w.heap.size w w' := by
  have hz := isM_text hS.wf hi hx
  obtain ⟨z, hzz⟩ : ∃ z, z = isM X.l i x.data.toList := ⟨_, rfl⟩
  rw [← hzz] at hz ⊢
  have CE := Lib.hid (end_any X s w hS)
  have hl := hS.len
  have hla := hS.last
  have rr := hS.row.cell
  have hcap := hS.cap
  obtain ⟨g, eg, lg, hc⟩ := hS.toks
  obtain ⟨c0, c1, c2, c3⟩ := hc i hi
  have hil : (i : Int) < (X.l.length : Int) := by omega
  rw [eg] at rr
  have HC := Lib.hid hc
  have hlg : g < w.heap.size := by have := hS.lt; omega
  have hrb := hS.lt
  generalize X.l[i] = t at *
  obtain ⟨kd, a, ld, tx⟩ := t
  dsimp only at *
  clear hc hS hzz
  by_cases h1 : i + 1 < X.l.length
  · rw [decide_eq_true h1, Bool.true_and] at hz
    have HZ := Lib.hid hz
    clear hz
    go_enter Tryz.func247, Tryz.ntmps247
    go_wp2_with fail
    refine CE.out.mono ?_
    rintro e w1 ⟨rfl, hb⟩
    have r1 : ∀ k, w1.cell? ⟨X.rb, k, none⟩ = w.cell? ⟨X.rb, k, none⟩ := fun k => (bcell hb).1 _ _ hrb
    have c3' : w1.cell? ⟨g, i * 4 + 3, none⟩ = some (.string tx) := ((bcell hb).1 _ _ hlg).trans c3
    have rr1 := fun k => (r1 k).trans (rr k)
    have HB := Lib.hid hb
    clear r1 hb rr
    go_wp2_with fail
    go_ret
    exact ⟨rb (by rw [HZ.out]; simp [ByteArray.toList_eq]), HB.out⟩
  · rw [decide_eq_false h1, Bool.false_and] at hz
    subst hz
    go_enter Tryz.func247, Tryz.ntmps247
    go_wp2_with fail
    refine CE.out.mono ?_
    rintro e w1 ⟨rfl, hb⟩
    have HB := Lib.hid hb
    clear hb
    go_wp2_with fail
    go_ret
    exact ⟨rfl, HB.out⟩
theorem PSt.pos_on {X : Cx} {w : World} {s : Sd} (h : PSt X w s) (hp : pos X s + 1 < X.l.length) : s.2 < 0 ∧ pos X s = s.1 := by
  have := h.last
  unfold pos at hp ⊢
  split
  · rename_i h1; rw [if_pos h1] at hp; omega
  · exact ⟨by omega, rfl⟩
theorem PSt.pos_end {X : Cx} {w : World} {s : Sd} (h : PSt X w s) (hp : ¬ pos X s + 1 < X.l.length) : (∀ k, k ≠ 0 → hasK X s k = false) ∧ (∀ x, tk X s x = false) := by
  have key : ∀ (_ : s.2 < 0), kindAt X.l s.1 = 0 := fun hs => by
    have e : pos X s = s.1 := by unfold pos; rw [if_neg (by omega)]
    by_cases hk : kindAt X.l s.1 = 0
    · exact hk
    · rw [e] at hp; exact absurd (kindAt_next h.wf.toWf hk) hp
  constructor
  · intro k hk
    unfold hasK
    by_cases hs : s.2 < 0
    · rw [key hs]; simp; omega
    · simp [hs]
  · intro x
    unfold tk
    by_cases hs : s.2 < 0
    · have e : pos X s = s.1 := by unfold pos; rw [if_neg (by omega)]
      cases hm : isM X.l s.1 x
      · simp
      · rw [e] at hp; exact absurd (isM_next h.wf.toWf hm) hp
    · simp [hs]
set_option maxHeartbeats 2000000 in
theorem has_any (X : Cx) (s : Sd) (k : Nat) (w : World) (hS : PSt X w s) (hk : k ≠ 0) (hk2 : k < 10) :
    Calls Tryz.prog 249 #[X.p, .int .i64 k] w fun e w' => e = .returned (.bool (hasK X s k)) ∧ Below w.heap.size w w' := by
  have CE : ∀ n, Calls Tryz.prog 168 #[X.p] (w.drewN n) fun e w' => e = .returned (.int .i64 (lastI X : Int)) ∧ ∃ m, w' = (w.drewN n).drewN m := fun n => end_q X s _ (hS.below (below_drewN (Below.refl _ _) n))
  have CEH := Lib.hid CE
  have hl := hS.len
  have hla := hS.last
  have hpl := hS.pos_lt
  have rr := hS.row.cell
  have hcap := hS.cap
  obtain ⟨g, eg, lg, hc⟩ := hS.toks
  rw [eg] at rr
  have hlg : g < w.heap.size := by have := hS.lt; omega
  have hrb := hS.lt
  by_cases hp : pos X s + 1 < X.l.length
  · obtain ⟨hs, e⟩ := PSt.pos_on hS hp
    obtain ⟨c0, c1, c2, c3⟩ := hc (pos X s) hpl
    have hz : hasK X s k = (X.l[pos X s].kind == k) := by
      unfold hasK
      rw [decide_eq_true hs, Bool.true_and, ← e, kindAt_get hpl]
      rfl
    rw [hz]
    have hil : ((pos X s : Nat) : Int) < (X.l.length : Int) := by omega
    have hd : ((pos X s : Nat) : Int) < (lastI X : Int) := by omega
    generalize X.l[pos X s] = t at *
    obtain ⟨kd, a, ld, tx⟩ := t
    dsimp only at *
    clear CE hc hS hz e hs hp
    generalize pos X s = p at *
    obtain ⟨z, hz⟩ : ∃ z, z = (kd == k) := ⟨_, rfl⟩
    have hz' : (((kd : Nat) : Int) == ((k : Nat) : Int)) = z := by
      rw [hz]
      by_cases h : kd = k
      · subst h; simp
      · rw [show (kd == k) = false by simpa using h, beq_eq_false_iff_ne]; omega
    rw [← hz]
    clear hz
    go_enter Tryz.func249, Tryz.ntmps249
    go_wp2_with fail
    go_quiet (first
      | (go_at_call 168; exact Calls.quiet_of (CEH.out _)))
    go_wp2_with fail
    go_ret
    exact ⟨rfl, below_drewN (Below.refl _ _) _⟩
  · rw [(PSt.pos_end hS hp).1 k hk]
    have hd : decide (((pos X s : Nat) : Int) < (lastI X : Int)) = false := decide_eq_false (by omega)
    have hd2 : decide (pos X s < lastI X) = false := decide_eq_false (by omega)
    clear CE hc hS hp
    generalize pos X s = p at *
    go_enter Tryz.func249, Tryz.ntmps249
    go_wp2_with fail
    go_quiet (first
      | (go_at_call 168; exact Calls.quiet_of (CEH.out _)))
    go_wp2_with fail
    go_ret
    exact ⟨rfl, below_drewN (Below.refl _ _) _⟩
end Pg
end Go.Proofs.YthjflofcgdfekaaGreatDoor
namespace Go.Proofs.YthjflofcgdfekaaGreatDoor
open Go.RowKit
namespace Pg
open Ps
def takeS (X : Cx) (s : Sd) (x : List UInt8) : Sd := if tk X s x = true then (s.1 + 1, s.2) else s
def wantS (X : Cx) (s : Sd) (x : List UInt8) : Sd := wantM X.l s.2 s.1 x
def wordS (X : Cx) (s : Sd) : Sd := (wordM X.l s.2 ⟨0, 0, 0, e0, 0⟩ s.1).2
def wat (X : Cx) (s : Sd) : Nat := if hasK X s 1 = true then s.1 else lastI X
theorem wantS_eq (X : Cx) (s : Sd) (x : List UInt8) : wantS X s x = if tk X s x = true then (s.1 + 1, s.2) else failS s := by
  obtain ⟨i, b⟩ := s
  unfold wantS wantM tk failS
  dsimp only
  by_cases hb : 0 ≤ b
  · rw [if_pos hb, decide_eq_false (by omega), if_neg (by simp), if_pos hb]
  · rw [if_neg hb, decide_eq_true (by omega), if_neg hb]
    simp only [Bool.true_and]
theorem wordS_eq (X : Cx) (s : Sd) : wordS X s = if hasK X s 1 = true then (s.1 + 1, s.2) else failS s := by
  obtain ⟨i, b⟩ := s
  unfold wordS wordM hasK failS
  dsimp only
  by_cases hb : 0 ≤ b
  · rw [if_pos hb, decide_eq_false (by omega), if_neg (by simp), if_pos hb]
  · rw [if_neg hb, decide_eq_true (by omega), if_neg hb]
    simp only [Bool.true_and, decide_eq_true_eq]
    split <;> rfl
theorem failS_bad (s : Sd) : 0 ≤ (failS s).2 := by
  unfold failS
  split
  · assumption
  · dsimp only; omega
def StepP (X : Cx) (w : World) (s : Sd) (w' : World) : Prop := PSt X w' s ∧ Fr X.rb w.heap.size w w'
set_option maxHeartbeats 2000000 in
theorem take_any (X : Cx) (s : Sd) (x : ByteArray) (w : World) (hS : PSt X w s) (hx : x.data.toList ∈ lits) :
    Calls Tryz.prog 219 #[X.p, .string x] w fun e w' => e = .returned (.bool (tk X s x.data.toList)) ∧ StepP X w (takeS X s x.data.toList) w' := by
  have HS := Lib.hid hS
  have hl := hS.len
  have hla := hS.last
  have hpl := hS.pos_lt
  have rr := hS.row.cell
  have rf := hS.row.thaw
  have hrb := hS.lt
  have C := tells_any X s (pos X s) x w hS hpl hx
  have hv : isM X.l (pos X s) x.data.toList = tk X s x.data.toList := by
    by_cases hp : pos X s + 1 < X.l.length
    · obtain ⟨hs, e⟩ := PSt.pos_on hS hp
      unfold tk
      rw [e, decide_eq_true hs, Bool.true_and]
    · rw [(PSt.pos_end hS hp).2]
      cases hm : isM X.l (pos X s) x.data.toList
      · rfl
      · exact absurd (isM_next hS.wf.toWf hm) hp
  rw [hv] at C
  unfold takeS
  cases q : tk X s x.data.toList
  · rw [q] at C
    have CH := Lib.hid C
    rw [if_neg (by simp)]
    clear C hS hv q
    generalize pos X s = p at *
    go_enter Tryz.func219, Tryz.ntmps219
    go_wp2_with fail
    refine CH.out.mono ?_
    rintro e w1 ⟨rfl, hb⟩
    have HS1 := Lib.hid (HS.out.below hb)
    have HF := Lib.hid (Fr.of (rb := X.rb) hb)
    clear hb
    go_wp2_with fail
    go_ret
    exact ⟨rfl, HS1.out, HF.out⟩
  · rw [q] at C
    have CH := Lib.hid C
    rw [if_pos rfl]
    obtain ⟨hs, hm⟩ := tk_good q
    have hnx := isM_next hS.wf.toWf hm
    have e : pos X s = s.1 := by unfold pos; rw [if_neg (by omega)]
    have HN := Lib.hid hnx
    have HH := Lib.hid hs
    have e1 : IntKind.i64.wrap (((pos X s : Nat) : Int) + 1) = ((s.1 + 1 : Nat) : Int) := by rw [IntKind.wrap_i64, e]; omega
    clear C hS hv q hm hs hnx e
    obtain ⟨p, hp⟩ : ∃ p, p = pos X s := ⟨_, rfl⟩
    rw [← hp] at CH rr e1 hpl
    obtain ⟨j, hj⟩ : ∃ j, j = s.1 + 1 := ⟨_, rfl⟩
    rw [← hj] at e1
    have HJ := Lib.hid hj
    have HP := Lib.hid hp
    clear hj hp
    go_enter Tryz.func219, Tryz.ntmps219
    go_wp2_with fail
    refine CH.out.mono ?_
    rintro e w1 ⟨rfl, hb⟩
    have HS1 := Lib.hid ((HS.out.below hb).go HH.out HN.out)
    have HF := Lib.hid (Fr.of (rb := X.rb) hb)
    have r1 := (HS.out.below hb).row.cell
    rw [← HP.out] at r1
    have f1 := (HS.out.below hb).row.thaw
    clear hb rr rf
    go_wp2_with fail
    go_ret
    refine ⟨rfl, ?_, HF.out.put 1 _⟩
    rw [HJ.out]
    exact HS1.out
abbrev nv0 : Value := .agg #[.int .i64 0, .int .i64 0, .int .i64 0, .string ⟨#[]⟩, .int .i64 0, .slice none 0 0]
abbrev nvv (h : Hd) (A : Option Addr) (n cap : Nat) : Value := .agg #[.int .i64 h.kind, .int .i64 h.fro, .int .i64 h.til, .string h.word, .int .i64 h.at_, .slice A n cap]
abbrev ncc (h : Hd) (A : Option Addr) (n cap : Nat) : Array Value := #[.int .i64 h.kind, .int .i64 h.fro, .int .i64 h.til, .string h.word, .int .i64 h.at_, .slice A n cap]
set_option maxHeartbeats 2000000 in
theorem fail_any (X : Cx) (s : Sd) (w : World) (hS : PSt X w s) :
    Calls Tryz.prog 169 #[X.p] w fun e w' => e = .returned nv0 ∧ StepP X w (failS s) w' := by
  have HS := Lib.hid hS
  have hl := hS.len
  have hla := hS.last
  have hrb := hS.lt
  have hpl := hS.pos_lt
  have rr := hS.row.cell
  have rf := hS.row.thaw
  by_cases hs : 0 ≤ s.2
  · have hd : decide (0 ≤ s.2) = true := decide_eq_true hs
    rw [hd] at rr
    have HH := Lib.hid hs
    clear hS hs hd
    have S1 := Lib.hid (HS.out.alloc (.cells #[.int .i64 0, .int .i64 0, .int .i64 0, .string ⟨#[]⟩, .int .i64 0, .slice none 0 0] 38))
    have CE := Lib.hid (end_any X s _ S1.out)
    go_enter Tryz.func169, Tryz.ntmps169
    go_wp2_with fail
    refine CE.out.mono ?_
    rintro e w1 ⟨rfl, hb⟩
    have HS1 := Lib.hid ((S1.out.below hb).stay HH.out)
    have r1 := (S1.out.below hb).row.cell
    have f1 := (S1.out.below hb).row.thaw
    have RN := (RowB.new w 38 #[.int .i64 0, .int .i64 0, .int .i64 0, .string ⟨#[]⟩, .int .i64 0, .slice none 0 0]).below hb (by simp)
    have n1 := RN.cell
    have n2 := RN.thaw
    have HF := Lib.hid ((Fr.of (rb := X.rb) (bel1 w (.cells #[.int .i64 0, .int .i64 0, .int .i64 0, .string ⟨#[]⟩, .int .i64 0, .slice none 0 0] 38))).trans ((Fr.of (rb := X.rb) hb).mono (by simp)))
    have hne : w.heap.size ≠ X.rb := by omega
    clear hb rr rf RN
    go_wp2
    refine bodyPost_ret ?_ rfl ⟨rfl, ?_⟩
    · simp [results, Tryz.results169, go_sem, *]
    · constructor
      · refine PSt.far (PSt.far (PSt.far (PSt.far (PSt.far (PSt.far HS1.out ?_ _) ?_ _) ?_ _) ?_ _) ?_ _) ?_ _ <;> exact hrb
      · refine Fr.setCell (Fr.setCell (Fr.setCell (Fr.setCell (Fr.setCell (Fr.setCell (HF.out.put 1 _) ?_ _) ?_ _) ?_ _) ?_ _) ?_ _) ?_ _ <;> exact Nat.le_refl _
  · have hd : decide (0 ≤ s.2) = false := decide_eq_false hs
    have hp : pos X s = s.1 := by unfold pos; rw [if_neg hs]
    have hw : wrong s = 0 := by unfold wrong; rw [if_neg hs]
    rw [hd, hp, hw] at rr
    have HH := Lib.hid (show s.2 < 0 by omega)
    have hrow := hS.row
    rw [hd, hp, hw] at hrow
    clear hS hs hd hp hw hpl
    obtain ⟨p, hp⟩ : ∃ p, p = s.1 := ⟨_, rfl⟩
    rw [← hp] at rr hrow
    have HP := Lib.hid hp
    clear hp
    have R1 := Lib.hid (((hrow.put 2 (.bool true)).put 3 (.int .i64 (p : Int))).alloc (.cells #[.int .i64 0, .int .i64 0, .int .i64 0, .string ⟨#[]⟩, .int .i64 0, .slice none 0 0] 38))
    have CE := Lib.hid (end_rawB X _ _ _ _ R1.out hla hl.2)
    have B0 := Lib.hid ((bel_put (bel_put (Below.refl X.rb w) 2 (.bool true)) 3 (.int .i64 (p : Int))).alloc (by simp [World.setCell]; omega) (.cells #[.int .i64 0, .int .i64 0, .int .i64 0, .string ⟨#[]⟩, .int .i64 0, .slice none 0 0] 38))
    have HF := Lib.hid (Fr.alloc (((Fr.refl X.rb w.heap.size w).put 2 (.bool true)).put 3 (.int .i64 (p : Int))) (by simp [World.setCell]) (.cells #[.int .i64 0, .int .i64 0, .int .i64 0, .string ⟨#[]⟩, .int .i64 0, .slice none 0 0] 38))
    have RN : RowB (((w.setCell ⟨X.rb, 2, none⟩ (.bool true)).setCell ⟨X.rb, 3, none⟩ (.int .i64 (p : Int))).alloc (.cells #[.int .i64 0, .int .i64 0, .int .i64 0, .string ⟨#[]⟩, .int .i64 0, .slice none 0 0] 38)) w.heap.size 38 #[.int .i64 0, .int .i64 0, .int .i64 0, .string ⟨#[]⟩, .int .i64 0, .slice none 0 0] := by
      have := RowB.new ((w.setCell ⟨X.rb, 2, none⟩ (.bool true)).setCell ⟨X.rb, 3, none⟩ (.int .i64 (p : Int))) 38 #[.int .i64 0, .int .i64 0, .int .i64 0, .string ⟨#[]⟩, .int .i64 0, .slice none 0 0]
      simpa [World.setCell] using this
    have RNH := Lib.hid RN
    clear hrow RN
    go_enter Tryz.func169, Tryz.ntmps169
    go_wp2_with fail
    refine CE.out.mono ?_
    rintro e w2 ⟨rfl, hb⟩
    have hb := Lib.hid hb
    have R2 := Lib.hid (R1.out.below hb.out R1.out.lt)
    have B2 := Lib.hid (B0.out.trans (hb.out.mono (by have := R1.out.lt; omega)))
    have HF2 := Lib.hid (HF.out.trans ((Fr.of (rb := X.rb) hb.out).mono (by simp [World.setCell])))
    have RN2 := RNH.out.below hb.out RNH.out.lt
    have r1 := R2.out.cell
    have f1 := R2.out.thaw
    have n1 := RN2.cell
    have n2 := RN2.thaw
    have hne : w.heap.size ≠ X.rb := by omega
    clear RNH RN2 HF hb B0 CE R1 rr rf
    go_wp2
    refine bodyPost_ret ?_ rfl ⟨rfl, ?_⟩
    · simp [results, Tryz.results169, go_sem, *]
    · have S3 : PSt X (w2.setCell ⟨X.rb, 1, none⟩ (.int .i64 (lastI X : Int))) (failS s) := HS.out.mk_fail HH.out (bel_put B2.out 1 _) (by
        have := R2.out.put 1 (.int .i64 (lastI X : Int))
        rw [← HP.out]
        exact this)
      constructor
      · refine PSt.far (PSt.far (PSt.far (PSt.far (PSt.far (PSt.far S3 ?_ _) ?_ _) ?_ _) ?_ _) ?_ _) ?_ _ <;> exact hrb
      · refine Fr.setCell (Fr.setCell (Fr.setCell (Fr.setCell (Fr.setCell (Fr.setCell (HF2.out.put 1 _) ?_ _) ?_ _) ?_ _) ?_ _) ?_ _) ?_ _ <;> exact Nat.le_refl _
set_option maxHeartbeats 2000000 in
theorem want_any (X : Cx) (s : Sd) (x : ByteArray) (w : World) (hS : PSt X w s) (hx : x.data.toList ∈ lits) :
    Calls Tryz.prog 248 #[X.p, .string x] w fun e w' => e = .returned (.tuple #[]) ∧ StepP X w (wantS X s x.data.toList) w' := by
  have C := take_any X s x w hS hx
  rw [wantS_eq]
  unfold takeS at C
  cases q : tk X s x.data.toList
  · rw [q, if_neg (by simp)] at C
    rw [if_neg (by simp)]
    have CH := Lib.hid C
    clear C hS q
    go_enter Tryz.func248, Tryz.ntmps248
    go_wp2_with fail
    refine CH.out.mono ?_
    rintro e w1 ⟨rfl, hS1, hF1⟩
    have CF := Lib.hid (fail_any X s w1 hS1)
    have F1 := Lib.hid hF1
    clear hS1 hF1
    go_wp2_with fail
    refine CF.out.mono ?_
    rintro e w2 ⟨rfl, hS2, hF2⟩
    have S2 := Lib.hid hS2
    have F2 := Lib.hid (F1.out.step hF2)
    clear hS2 hF2
    go_wp2_with fail
    go_end0
    exact ⟨rfl, S2.out, F2.out⟩
  · rw [q, if_pos rfl] at C
    rw [if_pos rfl]
    have CH := Lib.hid C
    clear C hS q
    go_enter Tryz.func248, Tryz.ntmps248
    go_wp2_with fail
    refine CH.out.mono ?_
    rintro e w1 ⟨rfl, hS1, hF1⟩
    have S1 := Lib.hid hS1
    have F1 := Lib.hid hF1
    clear hS1 hF1
    go_wp2_with fail
    go_end0
    exact ⟨rfl, S1.out, F1.out⟩
theorem wat_lt {X : Cx} {w : World} {s : Sd} (h : PSt X w s) : wat X s < X.l.length := by
  unfold wat
  split
  · rename_i hh
    unfold hasK at hh
    rw [Bool.and_eq_true, decide_eq_true_eq] at hh
    exact h.ib hh.1
  · have := h.last; omega
set_option maxHeartbeats 2000000 in
theorem word_any (X : Cx) (s : Sd) (w : World) (hS : PSt X w s) :
    Calls Tryz.prog 222 #[X.p] w fun e w' => e = .returned (.int .i64 (wat X s : Int)) ∧ StepP X w (wordS X s) w' := by
  have C := has_any X s 1 w hS (by decide) (by decide)
  have HS := Lib.hid hS
  have hl := hS.len
  rw [wordS_eq]
  unfold wat
  cases q : hasK X s 1
  · rw [q] at C
    rw [if_neg (by simp), if_neg (by simp)]
    have CH := Lib.hid C
    clear C hS q
    go_enter Tryz.func222, Tryz.ntmps222
    go_wp2_with fail
    refine CH.out.mono ?_
    rintro e w1 ⟨rfl, hb⟩
    have CF := Lib.hid (fail_any X s w1 (HS.out.below hb))
    have F1 := Lib.hid (Fr.of (rb := X.rb) hb)
    clear hb
    go_wp2_with fail
    refine CF.out.mono ?_
    rintro e w2 ⟨rfl, hS2, hF2⟩
    have S2 := Lib.hid hS2
    have F2 := Lib.hid (F1.out.step hF2)
    have CE := Lib.hid (end_any X (failS s) w2 hS2)
    clear hS2 hF2
    go_wp2_with fail
    refine CE.out.mono ?_
    rintro e w3 ⟨rfl, hb3⟩
    have S3 := Lib.hid (S2.out.below hb3)
    have F3 := Lib.hid (F2.out.step (Fr.of hb3))
    clear hb3
    go_wp2_with fail
    go_ret
    exact ⟨rfl, S3.out, F3.out⟩
  · rw [q] at C
    rw [if_pos rfl, if_pos rfl]
    have CH := Lib.hid C
    have hs : s.2 < 0 ∧ kindAt X.l s.1 = 1 := by
      unfold hasK at q
      rw [Bool.and_eq_true, decide_eq_true_eq, decide_eq_true_eq] at q
      exact q
    have hnx := kindAt_next hS.wf.toWf (show kindAt X.l s.1 ≠ 0 by omega)
    have hp : pos X s = s.1 := by unfold pos; rw [if_neg (by omega)]
    have HN := Lib.hid hnx
    have HH := Lib.hid hs.1
    obtain ⟨p, hpp⟩ : ∃ p, p = s.1 := ⟨_, rfl⟩
    obtain ⟨j, hj⟩ : ∃ j, j = s.1 + 1 := ⟨_, rfl⟩
    have e1 : IntKind.i64.wrap ((p : Int) + 1) = (j : Int) := by rw [IntKind.wrap_i64]; omega
    have e2 : IntKind.i64.wrap ((j : Int) - 1) = (p : Int) := by rw [IntKind.wrap_i64]; omega
    rw [← hpp] at hp ⊢
    have HP := Lib.hid hp
    have HJ := Lib.hid hj
    have HPP := Lib.hid hpp
    clear C hS q hs hnx hp hj hpp
    go_enter Tryz.func222, Tryz.ntmps222
    go_wp2_with fail
    refine CH.out.mono ?_
    rintro e w1 ⟨rfl, hb⟩
    have HS1 := Lib.hid ((HS.out.below hb).go HH.out HN.out)
    have HF := Lib.hid (Fr.of (rb := X.rb) hb)
    have r1 := (HS.out.below hb).row.cell
    rw [HP.out] at r1
    have f1 := (HS.out.below hb).row.thaw
    clear hb
    go_wp2_with fail
    go_ret
    refine ⟨rfl, ?_, HF.out.put 1 _⟩
    rw [HJ.out, HPP.out]
    exact HS1.out
end Pg
end Go.Proofs.YthjflofcgdfekaaGreatDoor
namespace Go.Proofs.YthjflofcgdfekaaGreatDoor
open Go.RowKit
namespace Pg
open Ps
theorem take_no (X : Cx) (s : Sd) (x : ByteArray) (w : World) (hS : PSt X w s) (hx : x.data.toList ∈ lits) (q : tk X s x.data.toList = false) :
    Calls Tryz.prog 219 #[X.p, .string x] w fun e w' => e = .returned (.bool false) ∧ StepP X w s w' := by
  have h := take_any X s x w hS hx
  unfold takeS at h
  rw [q, if_neg (by simp)] at h
  exact h
theorem take_yes (X : Cx) (s : Sd) (x : ByteArray) (w : World) (hS : PSt X w s) (hx : x.data.toList ∈ lits) (q : tk X s x.data.toList = true) :
    Calls Tryz.prog 219 #[X.p, .string x] w fun e w' => e = .returned (.bool true) ∧ StepP X w (s.1 + 1, s.2) w' := by
  have h := take_any X s x w hS hx
  unfold takeS at h
  rw [q, if_pos rfl] at h
  exact h
theorem below_put6 {B g : Nat} {w w' : World} (h : Below B w w') (hg : B ≤ g) (u0 u1 u2 u3 u4 u5 : Value) : Below B w ((((((w'.setCell ⟨g, 0, none⟩ u0).setCell ⟨g, 1, none⟩ u1).setCell ⟨g, 2, none⟩ u2).setCell ⟨g, 3, none⟩ u3).setCell ⟨g, 4, none⟩ u4).setCell ⟨g, 5, none⟩ u5) :=
  Below.setCell (p := ⟨g, 5, none⟩) (Below.setCell (p := ⟨g, 4, none⟩) (Below.setCell (p := ⟨g, 3, none⟩) (Below.setCell (p := ⟨g, 2, none⟩) (Below.setCell (p := ⟨g, 1, none⟩) (Below.setCell (p := ⟨g, 0, none⟩) h hg u0) hg u1) hg u2) hg u3) hg u4) hg u5
abbrev zcc : Array Value := #[.int .i64 0, .int .i64 0, .int .i64 0, .string ⟨#[]⟩, .int .i64 0, .slice none 0 0]
set_option maxHeartbeats 2000000 in
theorem node_any (X : Cx) (s : Sd) (kd fr : Nat) (A : Option Addr) (n c : Nat) (w : World) (hS : PSt X w s) :
    Calls Tryz.prog 172 #[X.p, .int .i64 kd, .int .i64 fr, .slice A n c] w fun e w' => e = .returned (nvv ⟨kd, fr, pos X s, e0, 0⟩ A n c) ∧ Below w.heap.size w w' := by
  have rr := hS.row.cell
  have hrb := hS.lt
  have hpl := hS.pos_lt
  have hl := hS.len
  clear hS
  generalize pos X s = p at *
  go_enter Tryz.func172, Tryz.ntmps172
  go_wp2
  refine bodyPost_ret ?_ rfl ⟨rfl, ?_⟩
  · simp [results, Tryz.results172, go_sem]
    rfl
  · exact (bel1 _ _)
set_option maxHeartbeats 4000000 in
theorem named_any (X : Cx) (s : Sd) (kd fr a : Nat) (A : Option Addr) (n c : Nat) (w : World) (hS : PSt X w s) (ha : a < X.l.length) :
    Calls Tryz.prog 221 #[X.p, .int .i64 kd, .int .i64 fr, .int .i64 a, .slice A n c] w fun e w' => e = .returned (nvv ⟨kd, fr, pos X s, textAt X.l a, a⟩ A n c) ∧ Below w.heap.size w w' := by
  have HS := Lib.hid hS
  have hrb := hS.lt
  have hpl := hS.pos_lt
  have hl := hS.len
  have htx := textAt_get ha
  have CN := Lib.hid (node_any X s kd fr A n c _ (hS.alloc (.cells #[.int .i64 0, .int .i64 0, .int .i64 0, .string ⟨#[]⟩, .int .i64 0, .slice none 0 0] 38)))
  have hil : (a : Int) < (X.l.length : Int) := by omega
  have hcap := hS.cap
  obtain ⟨x, hx⟩ : ∃ x, x = textAt X.l a := ⟨_, rfl⟩
  rw [← hx] at htx ⊢
  clear hS hx
  generalize pos X s = p at *
  go_enter Tryz.func221, Tryz.ntmps221
  go_wp2_with fail
  refine CN.out.mono ?_
  rintro e w1 ⟨rfl, hb⟩
  have S1 := (HS.out.alloc (.cells #[.int .i64 0, .int .i64 0, .int .i64 0, .string ⟨#[]⟩, .int .i64 0, .slice none 0 0] 38)).below hb
  obtain ⟨g, eg, lg, hc⟩ := S1.toks
  obtain ⟨c0, c1, c2, c3⟩ := hc a ha
  have rr := S1.row.cell
  rw [eg] at rr
  rw [← htx] at c3
  have hlt := S1.lt
  have hsz : w.heap.size < w1.heap.size := by have := hb.size; simp at this; omega
  have hB := Lib.hid ((bel1 w (.cells #[.int .i64 0, .int .i64 0, .int .i64 0, .string ⟨#[]⟩, .int .i64 0, .slice none 0 0] 38)).trans (hb.mono (by simp)))
  have RN := (RowB.new w 38 #[.int .i64 0, .int .i64 0, .int .i64 0, .string ⟨#[]⟩, .int .i64 0, .slice none 0 0]).below hb (by simp)
  have n1 := RN.cell
  have n2 := RN.thaw
  have hne : g < w1.heap.size := by omega
  clear hb S1 RN htx hc c0 c1 c2
  go_wp2
  refine bodyPost_ret ?_ rfl ⟨rfl, ?_⟩
  · simp [results, Tryz.results221, go_sem, *]
    try rfl
  · exact (below_put6 hB.out (Nat.le_refl _) _ _ _ _ _ _).alloc (by simp [World.setCell]; omega) _
set_option maxHeartbeats 4000000 in
theorem leaf_any (X : Cx) (s : Sd) (kd : Nat) (w : World) (hS : PSt X w s) (hs : s.2 < 0) (hn : s.1 + 1 < X.l.length) :
    Calls Tryz.prog 299 #[X.p, .int .i64 kd] w fun e w' => e = .returned (nvv ⟨kd, s.1, s.1 + 1, textAt X.l s.1, s.1⟩ none 0 0) ∧ StepP X w (s.1 + 1, s.2) w' := by
  have hp : pos X s = s.1 := by unfold pos; rw [if_neg (by omega)]
  have hp2 : pos X (s.1 + 1, s.2) = s.1 + 1 := by unfold pos; rw [if_neg (by dsimp only; omega)]
  have hl := hS.len
  have hrb := hS.lt
  have rr := hS.row.cell
  have rf := hS.row.thaw
  rw [hp] at rr
  obtain ⟨p, hpp⟩ : ∃ p, p = s.1 := ⟨_, rfl⟩
  obtain ⟨j, hj⟩ : ∃ j, j = s.1 + 1 := ⟨_, rfl⟩
  have e1 : IntKind.i64.wrap ((p : Int) + 1) = (j : Int) := by rw [IntKind.wrap_i64]; omega
  have HS1 := Lib.hid (hS.go hs hn)
  have CN := Lib.hid (fun w' h => named_any X (s.1 + 1, s.2) kd s.1 s.1 none 0 0 w' h (by omega))
  rw [hp2, ← hj, ← hpp] at CN
  rw [← hj] at HS1
  rw [← hj, ← hpp]
  rw [← hpp] at rr
  have hpj : p < 4000 := by omega
  have LS0 := LS.start hS
  clear hS hs hn hp hp2
  clear hpp hj
  have L0 := Lib.hid ((LS0.step HS1.out ((Fr.refl _ _ _).put 1 (.int .i64 (j : Int)))).alloc w.heap.size (by simp [World.setCell]) 38 zcc)
  clear LS0
  go_enter Tryz.func299, Tryz.ntmps299
  go_wp2_with fail
  refine (CN.out _ L0.out.st).mono ?_
  rintro e w1 ⟨rfl, hb⟩
  have L1 := Lib.hid (L0.out.other hb)
  have r1 := (L1.out.row 0 rfl).cell
  have t1 := (L1.out.row 0 rfl).thaw
  have L2 := Lib.hid (L1.out.put6 0 rfl rfl (.int .i64 kd) (.int .i64 p) (.int .i64 j) (.string (textAt X.l p)) (.int .i64 p) (.slice none 0 0))
  clear hb
  go_wp2
  refine bodyPost_ret ?_ rfl ⟨rfl, L2.out.st, L2.out.fr⟩
  simp [results, Tryz.results299, go_sem, *]
end Pg
end Go.Proofs.YthjflofcgdfekaaGreatDoor
namespace Go.Proofs.YthjflofcgdfekaaGreatDoor
open Go.RowKit
namespace Pg
open Ps
def NodeQ (X : Cx) (w : World) (r : Fo × Sd) (e : Ending) (w' : World) : Prop :=
  ∃ h k A cap, e = .returned (nvv h A k.len cap) ∧ KV w' (fun g => w.heap.size ≤ g) k A cap ∧ PSt X w' r.2 ∧ Fr X.rb w.heap.size w w' ∧ (r.2.2 < 0 → r.1 = .one h k)
def RuleQ (X : Cx) (P : Prop) (M : Sd → Res) (fn : Nat) : Prop := ∀ (s : Sd) (w : World) (r : Fo × Sd), (s.2 < 0 → P ∧ M s = some r) → (0 ≤ s.2 → r.2.2 = s.2) → PSt X w s →
  Calls Tryz.prog fn #[X.p] w (NodeQ X w r)
abbrev exR (X : Cx) (f : Nat) (t : XT) : Sd → Res := fun s => exM X.l f t s.2 s.1
theorem KV.two {w : World} {P : Nat → Prop} {h1 h2 : Hd} {k1 k2 : Fo} {A1 A2 : Option Addr} {c1 c2 : Nat} (a : KV w P k1 A1 c1) (b : KV w P k2 A2 c2) :
    FC w P ((Fo.one h1 k1).app (.one h2 k2)) (#[Value.int .i64 h1.kind, .int .i64 h1.fro, .int .i64 h1.til, .string h1.word, .int .i64 h1.at_, .slice A1 k1.len c1, .int .i64 h2.kind, .int .i64 h2.fro, .int .i64 h2.til, .string h2.word, .int .i64 h2.at_, .slice A2 k2.len c2] : Array Value).toList :=
  FC.app _ _ (FC.one a) (FC.one b)
theorem KV.three {w : World} {P : Nat → Prop} {h1 h2 h3 : Hd} {k1 k2 k3 : Fo} {A1 A2 A3 : Option Addr} {c1 c2 c3 : Nat} (a : KV w P k1 A1 c1) (b : KV w P k2 A2 c2) (c : KV w P k3 A3 c3) :
    FC w P ((Fo.one h1 k1).app ((Fo.one h2 k2).app (.one h3 k3))) (#[Value.int .i64 h1.kind, .int .i64 h1.fro, .int .i64 h1.til, .string h1.word, .int .i64 h1.at_, .slice A1 k1.len c1, .int .i64 h2.kind, .int .i64 h2.fro, .int .i64 h2.til, .string h2.word, .int .i64 h2.at_, .slice A2 k2.len c2, .int .i64 h3.kind, .int .i64 h3.fro, .int .i64 h3.til, .string h3.word, .int .i64 h3.at_, .slice A3 k3.len c3] : Array Value).toList :=
  FC.app _ _ (FC.one a) (FC.app _ _ (FC.one b) (FC.one c))
theorem pos_good {X : Cx} {s : Sd} (h : s.2 < 0) : pos X s = s.1 := by unfold pos; rw [if_neg (by omega)]
def InvL (X : Cx) (P : Prop) (r : Fo × Sd) (p fk : Nat) (T : Fo → XT) (sk : Sd) (h : Hd) (k : Fo) : Prop := (sk.2 < 0 → P ∧ h.fro = p ∧ exM X.l fk (T (.one h k)) sk.2 sk.1 = some r) ∧ (0 ≤ sk.2 → r.2.2 = sk.2)
theorem PSt.to {X : Cx} {w : World} {s s' : Sd} (h : PSt X w s) (h1 : s.2 < 0 → s' = s) (h2 : 0 ≤ s.2 → s'.2 = s.2) : PSt X w s' := by
  by_cases hs : s.2 < 0
  · rw [h1 hs]; exact h
  · have hs' : 0 ≤ s.2 := by omega
    have e := h2 hs'
    have hs2 : 0 ≤ s'.2 := by rw [e]; exact hs'
    have e1 : pos X s' = pos X s := by unfold pos; rw [if_pos hs2, if_pos hs']
    have e2 : wrong s' = wrong s := by unfold wrong; rw [if_pos hs2, if_pos hs', e]
    refine ⟨?_, h.toks, h.wf, h.cap, fun hh => absurd hh (by omega), by rw [e]; exact h.bb⟩
    rw [e1, e2, e]
    exact h.row
theorem expr_pure {X : Cx} {P : Prop} {f : Nat} {s : Sd} {r : Fo × Sd} (h1 : s.2 < 0 → P ∧ exR X (f + 1) .expr s = some r) (h2 : 0 ≤ s.2 → r.2.2 = s.2) :
    ∃ a : Fo × Sd, (s.2 < 0 → P ∧ exR X f .sum s = some a) ∧ (0 ≤ s.2 → a.2.2 = s.2) ∧ (0 ≤ a.2.2 → r.2.2 = a.2.2) ∧ (a.2.2 < 0 → P ∧ a.1.from_ = pos X s) ∧
      (a.2.2 < 0 → isM X.l a.2.1 sLess = false → isM X.l a.2.1 sEqEq = false → r = a) ∧
      (a.2.2 < 0 → ∀ (sg : List UInt8) (kd : Nat), (sg = sLess ∧ kd = 14 ∨ sg = sEqEq ∧ kd = 15) → isM X.l a.2.1 sg = true → ∃ c : Fo × Sd, exR X f .sum (a.2.1 + 1, a.2.2) = some c ∧ r = (.one ⟨kd, a.1.from_, c.2.1, e0, 0⟩ (a.1.app c.1), c.2)) := by
  by_cases hs : 0 ≤ s.2
  · refine ⟨(.nil, s), fun h => absurd h (by omega), fun _ => rfl, fun _ => h2 hs, fun h => absurd h (by dsimp only; omega), fun h => absurd h (by dsimp only; omega), fun h => absurd h (by dsimp only; omega)⟩
  · obtain ⟨hP, h⟩ := h1 (by omega)
    unfold exR at h
    rw [exM] at h
    obtain ⟨a, ha, h⟩ := Option.bind_eq_some_iff.1 h
    refine ⟨a, fun _ => ⟨hP, ha⟩, fun h => absurd h hs, fun hb => ?_, fun hb => ⟨hP, ?_⟩, fun hb n1 n2 => ?_, fun hb sg kd hk hm => ?_⟩
    · rw [if_pos (.inl hb)] at h; injection h with h; rw [← h]
    · rw [pos_good (by omega)]; exact exM_from _ _ _ _ _ _ rfl ha hb
    · rw [if_pos (.inr ⟨by rw [n1]; simp, by rw [n2]; simp⟩)] at h; injection h with h; exact h.symm
    · rw [if_neg (by
        rintro (h | ⟨h, h'⟩)
        · omega
        · rcases hk with ⟨rfl, _⟩ | ⟨rfl, _⟩
          · exact h hm
          · exact h' hm)] at h
      obtain ⟨c, hc, h⟩ := Option.bind_eq_some_iff.1 h
      injection h with h
      refine ⟨c, hc, ?_⟩
      rcases hk with ⟨rfl, rfl⟩ | ⟨rfl, rfl⟩
      · rw [← h, isM_ne hm (by decide), if_neg (by simp)]
      · rw [← h, hm, if_pos rfl]
end Pg
end Go.Proofs.YthjflofcgdfekaaGreatDoor
