/- Contracts: which records go where, by the program. -/
import Derived.Test.YtifkjngclkklfaaGreatDoorMGn
import Derived.Deep.RegionHeld3
import Derived.Lib.QuietBelow
import Derived.Test.YtifkjngclkklfaaGreatDoorMGm
import Derived.Deep.LoopGhost
import Derived.Test.YtifkjngclkklfaaGreatDoorMGd
import Derived.Test.YtifkjngclkklfaaGreatDoorMGj
namespace Go.Proofs.YtifkjngclkklfaaGreatDoor
open Go.RowKit Go.Op
namespace Tm
theorem flRec_take {f : Ty → Ty → Bool} {an : List ByteArray} {ap : List Ty} : ∀ {xs : List ByteArray} {qs : List Ty} {i : Nat} {x : ByteArray} {q : Ty}, flRec f an ap (xs.take i) (qs.take i) = true → xs[i]? = some x → qs[i]? = some q → (∃ p, lk an ap x = some p ∧ f p q = true) → flRec f an ap (xs.take (i + 1)) (qs.take (i + 1)) = true
  | [], _, i, x, q, _, h, _, _ => by simp at h
  | _ :: _, [], i, x, q, _, _, h, _ => by simp at h
  | a :: l, b :: m, 0, x, q, _, h, h', ⟨p, k1, k2⟩ => by
    obtain rfl : a = x := by simpa using h
    obtain rfl : b = q := by simpa using h'
    simp [flRec, k1, k2]
  | a :: l, b :: m, i + 1, x, q, hz, h, h', k => by
    rw [List.take_succ_cons, List.take_succ_cons, flRec, Bool.and_eq_true] at hz
    rw [List.take_succ_cons, List.take_succ_cons, flRec, Bool.and_eq_true]
    exact ⟨hz.1, flRec_take hz.2 (by simpa using h) (by simpa using h') k⟩
theorem flRec_no {f : Ty → Ty → Bool} {an : List ByteArray} {ap : List Ty} : ∀ {xs : List ByteArray} {qs : List Ty} {i : Nat} {x : ByteArray} {q : Ty}, xs[i]? = some x → qs[i]? = some q → (∀ p, lk an ap x = some p → f p q = false) → flRec f an ap xs qs = false
  | [], _, i, x, q, h, _, _ => by simp at h
  | _ :: _, [], i, x, q, _, h, _ => by simp at h
  | a :: l, b :: m, 0, x, q, h, h', k => by
    obtain rfl : a = x := by simpa using h
    obtain rfl : b = q := by simpa using h'
    rw [flRec]
    cases e : lk an ap a with
    | none => simp
    | some p => simp [k p e]
  | a :: l, b :: m, i + 1, x, q, h, h', k => by
    rw [flRec, flRec_no (xs := l) (qs := m) (i := i) (by simpa using h) (by simpa using h') k, Bool.and_false]
theorem flRec_all {f : Ty → Ty → Bool} {an : List ByteArray} {ap : List Ty} {xs : List ByteArray} {qs : List Ty} {n : Nat} (h : flRec f an ap (xs.take n) (qs.take n) = true) (h1 : n = xs.length) (h2 : n = qs.length) : flRec f an ap xs qs = true := by
  rw [List.take_of_length_le (by omega), List.take_of_length_le (by omega)] at h
  exact h
/-- Field's answer as a row of cells. -/
def frow (o : Option Ty) (An : Option Addr) (cn : Nat) (A : Option Addr) (c : Nat) : Array Value := match o with
  | some p => #[.int .i64 p.kind, .slice An p.names.length cn, .slice A p.parts.length c]
  | none => tzc

theorem NV.low {w : World} {P : Nat → Prop} {ns : List ByteArray} {A : Option Addr} {c : Nat} (h : NV w P ns A c) : NV w (fun g => P g ∧ g < w.heap.size) ns A c := h.keep (Nat.le_refl _) fun _ hg hl => ⟨rfl, hg, hl⟩
theorem TV.low {w : World} {P : Nat → Prop} {ps : List Ty} {A : Option Addr} {c : Nat} (h : TV w P ps A c) : TV w (fun g => P g ∧ g < w.heap.size) ps A c := h.keep (Nat.le_refl _) fun _ hg hl => ⟨rfl, hg, hl⟩
/-- A type in old memory stays where only new memory turns. -/
theorem TI.stay {w w' : World} {P : Nat → Prop} {B : Nat} {t : Ty} {An : Option Addr} {cn : Nat} {A : Option Addr} {c : Nat} (h : TI w (fun g => P g ∧ g < B) t An cn A c) (hb : Below B w w') : TI w' P t An cn A c :=
  h.keep hb.size fun g hg _ => ⟨hb.block g hg.2, hg.1⟩
/-- Field's answer laid in a variable. -/
def CutR (wr : World) (P : Nat → Prop) (q : Option Ty) (s6 s7 : Value) (wx : World) : Prop :=
  ∃ H An cn A c, s6 = .pointer (some ⟨H, 0, none⟩) ∧ s7 = .bool q.isSome ∧ wr.heap.size ≤ H ∧ RowB wx H 25 (frow q An cn A c) ∧ Below wr.heap.size wr wx ∧ ∀ p, q = some p → TI wx P p An cn A c
set_option maxHeartbeats 8000000 in
set_option maxRecDepth 100000 in
theorem precflows_any (w : World) (an bn : List ByteArray) (ap bp : List Ty) (P P' : Nat → Prop) (An : Option Addr) (cn : Nat) (A : Option Addr) (c : Nat) (Bn : Option Addr) (dn : Nat) (B : Option Addr) (d : Nat)
    (hAn : NV w P an An cn) (hA : TV w P ap A c) (hBn : NV w P' bn Bn dn) (hB : TV w P' bp B d) (ra : (Ty.mk 3 an ap).right = true) (rb : (Ty.mk 3 bn bp).right = true) (la : an.length ≤ 1000001) (lb : bp.length ≤ 1000001) (I1 : FlowsIH 32 ap bp) (r : Bool) (hr : r = flRec flows an ap bn bp) :
    Calls Tryz.prog 53 #[.agg #[.int .i64 3, .slice An an.length cn, .slice A ap.length c], .agg #[.int .i64 3, .slice Bn bn.length dn, .slice B bp.length d]] w fun e w' => e = .returned (.bool r) ∧ Below w.heap.size w w' := by
  have hlb : bn.length = bp.length := (right_rec rb rfl).1
  rw [hlb]
  obtain ⟨n, hn⟩ : ∃ n, n = bp.length := ⟨_, rfl⟩
  rw [← hn]
  have hn1 : n ≤ 1000001 := by omega
  have b1 : Below w.heap.size w (w.alloc (.cells (tarr 3 An an.length cn A ap.length c) 25)) := bel1 w _
  have b2 : Below (w.alloc (.cells (tarr 3 An an.length cn A ap.length c) 25)).heap.size (w.alloc (.cells (tarr 3 An an.length cn A ap.length c) 25)) _ := bel1 _ (.cells (tarr 3 Bn n dn B n d) 25)
  have HB0 := Lib.hid (b1.trans (b2.mono b1.size))
  have R1 := Lib.hid ((RowB.new w 25 (tarr 3 An an.length cn A ap.length c)).alloc (.cells (tarr 3 Bn n dn B n d) 25))
  have R2 : Hid (RowB ((w.alloc (.cells (tarr 3 An an.length cn A ap.length c) 25)).alloc (.cells (tarr 3 Bn n dn B n d) 25)) (w.heap.size + 1) 25 (tarr 3 Bn n dn B n d)) := by
    have := RowB.new (w.alloc (.cells (tarr 3 An an.length cn A ap.length c) 25)) 25 (tarr 3 Bn n dn B n d)
    unfold Hid
    simpa using this
  have HNA := Lib.hid ((hAn.below b1).below b2)
  have HTA := Lib.hid ((hA.below b1).below b2)
  have HNB := Lib.hid ((hBn.below b1).below b2)
  have HTB := Lib.hid ((hB.below b1).below b2)
  have C1 := Lib.hid (plabels_any ((w.alloc (.cells (tarr 3 An an.length cn A ap.length c) 25)).alloc (.cells (tarr 3 Bn n dn B n d) 25)) 3 Bn n dn B n d rfl)
  have r1 := R1.out.cell
  have r2 := R2.out.cell
  have HR := Lib.hid hr
  have H1 := Lib.hid I1
  have HRA : Hid ((Ty.mk 3 an ap).right = true) := ra
  have HL : Hid (an.length ≤ 1000001 ∧ n = bn.length ∧ n = bp.length) := ⟨la, by omega, hn⟩
  clear b1 b2 hAn hA hBn hB hr I1 ra rb la lb hn hlb
  go_enter Tryz.func53, Tryz.ntmps53
  go_wp2_with fail
  refine C1.out.mono ?_
  rintro e w1 ⟨rfl, h1⟩
  have HB1 := Lib.hid (HB0.out.trans (h1.mono HB0.out.size))
  have R3 := Lib.hid (R1.out.below h1 R1.out.lt)
  have R4 := Lib.hid (R2.out.below h1 R2.out.lt)
  have HNA1 := Lib.hid (HNA.out.below h1)
  have HTA1 := Lib.hid (HTA.out.below h1)
  have HNB1 := Lib.hid (HNB.out.below h1)
  have HTB1 := Lib.hid (HTB.out.below h1)
  clear h1 C1 r1 r2 R1 R2 HNA HTA HNB HTB HB0
  go_wp2_with fail
  go_loopg [10] (n + 1) (fun kx s10 wr => ∃ i : Nat, s10 = .int .i64 i ∧ n - i ≤ kx ∧ i ≤ n ∧ Hid (flRec flows an ap (bn.take i) (bp.take i) = true) ∧ Hid (Below w1.heap.size w1 wr))
  case atStart => exact ⟨0, rfl, by omega, by omega, by simp [Hid, flRec], Below.refl _ _⟩
  case round =>
    obtain ⟨i, rfl, hkx, hin, HQ, HB⟩ := hrel
    by_cases hi : i < n
    · have hil : (i : Int) < (n : Int) := by omega
      obtain ⟨s, e⟩ := get_lt (l := bn) (i := i) (by rw [← HL.out.2.1]; exact hi)
      obtain ⟨t, e'⟩ := get_lt (l := bp) (i := i) (by rw [← HL.out.2.2]; exact hi)
      obtain ⟨g0, o0, hA0, _, hg0, y0, hz0⟩ := (HNB1.out.below HB.out).nth e
      obtain ⟨g, o, Bn2, dn2, B2, d2, hB2, hP, hg, hti, v0, v1, v2⟩ := (HTB1.out.below HB.out).nth e'
      have X3 := Lib.hid (R3.out.below HB.out R3.out.lt)
      have X4 := Lib.hid (R4.out.below HB.out R4.out.lt)
      have HE := Lib.hid e
      have HE' := Lib.hid e'
      have D0 : Hid (Below wr.heap.size wr wr.drew) := Below.drew (Below.refl _ _)
      have CF : Hid (∀ w', Below wr.heap.size wr w' → Calls Tryz.prog 22 #[.agg #[.int .i64 3, .slice An an.length cn, .slice A ap.length c], .string s] w' (FieldQ (fun g => P g ∧ g < wr.heap.size) ((Ty.mk 3 an ap).field s) w')) := fun w' hb => pfield_any w' 3 an ap s _ An cn A c ((HNA1.out.below HB.out).low.below hb) ((HTA1.out.below HB.out).low.below hb) HL.out.1 HRA.out
      have D1 : Hid (Below wr.heap.size wr (wr.alloc (.cells #[.int .i64 0, .slice none 0 0, .slice none 0 0] 25)).drew) := Below.drew (bel1 wr _)
      obtain ⟨q, hq⟩ : ∃ q, q = (Ty.mk 3 an ap).field s := ⟨_, rfl⟩
      have hq2 : Hid (q = lk an ap s) := by unfold Hid; rw [hq]; rfl
      rw [← hq] at CF
      have HTI := Lib.hid hti
      have z3 := X3.out.cell
      have z4 := X4.out.cell
      have RD : Hid (RowB (wr.alloc (.cells #[.int .i64 0, .slice none 0 0, .slice none 0 0] 25)).drew wr.heap.size 25 #[.int .i64 0, .slice none 0 0, .slice none 0 0]) := RowB.new wr 25 _
      have zd3 : ∀ j, (wr.alloc (.cells #[.int .i64 0, .slice none 0 0, .slice none 0 0] 25)).drew.cell? ⟨w.heap.size, j, none⟩ = (tarr 3 An an.length cn A ap.length c)[j]? := (X3.out.alloc _).cell
      have zd4 : ∀ j, (wr.alloc (.cells #[.int .i64 0, .slice none 0 0, .slice none 0 0] 25)).drew.cell? ⟨w.heap.size + 1, j, none⟩ = (tarr 3 Bn n dn B n d)[j]? := (X4.out.alloc _).cell
      have yd0 : (wr.alloc (.cells #[.int .i64 0, .slice none 0 0, .slice none 0 0] 25)).drew.cell? ⟨g0, o0 + i, none⟩ = some (.string s) := (D1.out.cell (p := ⟨g0, o0 + i, none⟩) hg0).trans y0
      have HBX := Lib.hid hB2
      subst hA0
      clear e e' hti hq hB2
      have HS0 : (∀ j, wr.drew.cell? ⟨w.heap.size, j, none⟩ = (tarr 3 An an.length cn A ap.length c)[j]?) ∧ (∀ j, wr.drew.cell? ⟨w.heap.size + 1, j, none⟩ = (tarr 3 (some ⟨g0, o0, none⟩) n dn B n d)[j]?) ∧ wr.drew.cell? ⟨g0, o0 + i, none⟩ = some (.string s) := ⟨z3, z4, y0⟩
      have HD0 : (∀ j, (wr.alloc (.cells #[.int .i64 0, .slice none 0 0, .slice none 0 0] 25)).drew.cell? ⟨w.heap.size, j, none⟩ = (tarr 3 An an.length cn A ap.length c)[j]?) ∧ (∀ j, (wr.alloc (.cells #[.int .i64 0, .slice none 0 0, .slice none 0 0] 25)).drew.cell? ⟨w.heap.size + 1, j, none⟩ = (tarr 3 (some ⟨g0, o0, none⟩) n dn B n d)[j]?) ∧ (wr.alloc (.cells #[.int .i64 0, .slice none 0 0, .slice none 0 0] 25)).drew.cell? ⟨g0, o0 + i, none⟩ = some (.string s) := ⟨zd3, zd4, yd0⟩
      clear z3 z4 zd3 zd4 yd0
      go_wp2_with fail
      go_upto_region 4 with fail
      go_cut [6, 7] from 13 to 35 (fun s6 s7 wx => CutR wr P q s6 s7 wx)
      case first =>
        cases q with
        | none =>
          go_region_held3 (fun w' => (∀ j, w'.cell? ⟨w.heap.size, j, none⟩ = (tarr 3 An an.length cn A ap.length c)[j]?) ∧ (∀ j, w'.cell? ⟨w.heap.size + 1, j, none⟩ = (tarr 3 (some ⟨g0, o0, none⟩) n dn B n d)[j]?) ∧ w'.cell? ⟨g0, o0 + i, none⟩ = some (.string s))
            (first
              | (with_reducible exact HS1)
              | (with_reducible exact HD0)
              | (with_reducible exact HS0)
              | (exact HK _)
              | (exact HP _ _ _)
              | fail)
            (first
            | (go_at_call 22; refine (CF.out wr.drew D0.out).mono ?_; rintro e w2 ⟨h2, rfl⟩; have HS1 : (∀ j, w2.cell? ⟨w.heap.size, j, none⟩ = (tarr 3 An an.length cn A ap.length c)[j]?) ∧ (∀ j, w2.cell? ⟨w.heap.size + 1, j, none⟩ = (tarr 3 (some ⟨g0, o0, none⟩) n dn B n d)[j]?) ∧ w2.cell? ⟨g0, o0 + i, none⟩ = some (.string s) := ⟨fun j => (h2.cell (p := ⟨w.heap.size, j, none⟩) X3.out.lt).trans (HS0.1 j), fun j => (h2.cell (p := ⟨w.heap.size + 1, j, none⟩) X4.out.lt).trans (HS0.2.1 j), (h2.cell (p := ⟨g0, o0 + i, none⟩) hg0).trans HS0.2.2⟩; have HK : ∀ cs : Array Value, (∀ j, (w2.alloc (.cells cs 25)).cell? ⟨w.heap.size, j, none⟩ = (tarr 3 An an.length cn A ap.length c)[j]?) ∧ (∀ j, (w2.alloc (.cells cs 25)).cell? ⟨w.heap.size + 1, j, none⟩ = (tarr 3 (some ⟨g0, o0, none⟩) n dn B n d)[j]?) ∧ (w2.alloc (.cells cs 25)).cell? ⟨g0, o0 + i, none⟩ = some (.string s) := fun cs => ⟨fun j => ((bel1 w2 (.cells cs 25)).cell (p := ⟨w.heap.size, j, none⟩) (Nat.lt_of_lt_of_le X3.out.lt h2.size)).trans (HS1.1 j), fun j => ((bel1 w2 (.cells cs 25)).cell (p := ⟨w.heap.size + 1, j, none⟩) (Nat.lt_of_lt_of_le X4.out.lt h2.size)).trans (HS1.2.1 j), ((bel1 w2 (.cells cs 25)).cell (p := ⟨g0, o0 + i, none⟩) (Nat.lt_of_lt_of_le hg0 h2.size)).trans HS1.2.2⟩)
            | (go_at_call 22; refine (CF.out (wr.alloc (.cells #[.int .i64 0, .slice none 0 0, .slice none 0 0] 25)).drew D1.out).mono ?_; rintro e w2 ⟨h2, rfl⟩; have rx := RD.out.below h2 RD.out.lt; have ry := rx.cell; have rz := rx.thaw; have HS1 : (∀ j, w2.cell? ⟨w.heap.size, j, none⟩ = (tarr 3 An an.length cn A ap.length c)[j]?) ∧ (∀ j, w2.cell? ⟨w.heap.size + 1, j, none⟩ = (tarr 3 (some ⟨g0, o0, none⟩) n dn B n d)[j]?) ∧ w2.cell? ⟨g0, o0 + i, none⟩ = some (.string s) := ⟨fun j => (h2.cell (p := ⟨w.heap.size, j, none⟩) (Nat.lt_of_lt_of_le X3.out.lt D1.out.size)).trans (HD0.1 j), fun j => (h2.cell (p := ⟨w.heap.size + 1, j, none⟩) (Nat.lt_of_lt_of_le X4.out.lt D1.out.size)).trans (HD0.2.1 j), (h2.cell (p := ⟨g0, o0 + i, none⟩) (Nat.lt_of_lt_of_le hg0 D1.out.size)).trans HD0.2.2⟩; have HP : ∀ e1 e2 e3, (∀ j, (((w2.setCell ⟨wr.heap.size, 0, none⟩ e1).setCell ⟨wr.heap.size, 1, none⟩ e2).setCell ⟨wr.heap.size, 2, none⟩ e3).cell? ⟨w.heap.size, j, none⟩ = (tarr 3 An an.length cn A ap.length c)[j]?) ∧ (∀ j, (((w2.setCell ⟨wr.heap.size, 0, none⟩ e1).setCell ⟨wr.heap.size, 1, none⟩ e2).setCell ⟨wr.heap.size, 2, none⟩ e3).cell? ⟨w.heap.size + 1, j, none⟩ = (tarr 3 (some ⟨g0, o0, none⟩) n dn B n d)[j]?) ∧ (((w2.setCell ⟨wr.heap.size, 0, none⟩ e1).setCell ⟨wr.heap.size, 1, none⟩ e2).setCell ⟨wr.heap.size, 2, none⟩ e3).cell? ⟨g0, o0 + i, none⟩ = some (.string s) := fun e1 e2 e3 => ⟨fun j => ((below_put3 (Below.refl wr.heap.size w2) (Nat.le_refl _) e1 e2 e3).cell (p := ⟨w.heap.size, j, none⟩) X3.out.lt).trans (HS1.1 j), fun j => ((below_put3 (Below.refl wr.heap.size w2) (Nat.le_refl _) e1 e2 e3).cell (p := ⟨w.heap.size + 1, j, none⟩) X4.out.lt).trans (HS1.2.1 j), ((below_put3 (Below.refl wr.heap.size w2) (Nat.le_refl _) e1 e2 e3).cell (p := ⟨g0, o0 + i, none⟩) hg0).trans HS1.2.2⟩)
            | fail)
          all_goals
            go_wp2_with fail
            go_meet
            first
              | exact ⟨_, none, 0, none, 0, rfl, rfl, h2.size, RowB.new w2 25 _, (D0.out.trans (h2.mono D0.out.size)).trans ((bel1 w2 _).mono (D0.out.trans (h2.mono D0.out.size)).size), fun p hp => by cases hp⟩
              | exact ⟨_, none, 0, none, 0, rfl, rfl, Nat.le_refl _, ((rx.put 0 _).put 1 _).put 2 _, below_put3 (D1.out.trans (h2.mono D1.out.size)) (Nat.le_refl _) _ _ _, fun p hp => by cases hp⟩
        | some p =>
          obtain ⟨kp, np, pp⟩ := p
          go_region_held3 (fun w' => (∀ j, w'.cell? ⟨w.heap.size, j, none⟩ = (tarr 3 An an.length cn A ap.length c)[j]?) ∧ (∀ j, w'.cell? ⟨w.heap.size + 1, j, none⟩ = (tarr 3 (some ⟨g0, o0, none⟩) n dn B n d)[j]?) ∧ w'.cell? ⟨g0, o0 + i, none⟩ = some (.string s))
            (first
              | (with_reducible exact HS1)
              | (with_reducible exact HD0)
              | (with_reducible exact HS0)
              | (exact HK _)
              | (exact HP _ _ _)
              | fail)
            (first
            | (go_at_call 22; refine (CF.out wr.drew D0.out).mono ?_; rintro e w2 ⟨h2, An3, cn3, A3, c3, rfl, ht3⟩; have HS1 : (∀ j, w2.cell? ⟨w.heap.size, j, none⟩ = (tarr 3 An an.length cn A ap.length c)[j]?) ∧ (∀ j, w2.cell? ⟨w.heap.size + 1, j, none⟩ = (tarr 3 (some ⟨g0, o0, none⟩) n dn B n d)[j]?) ∧ w2.cell? ⟨g0, o0 + i, none⟩ = some (.string s) := ⟨fun j => (h2.cell (p := ⟨w.heap.size, j, none⟩) X3.out.lt).trans (HS0.1 j), fun j => (h2.cell (p := ⟨w.heap.size + 1, j, none⟩) X4.out.lt).trans (HS0.2.1 j), (h2.cell (p := ⟨g0, o0 + i, none⟩) hg0).trans HS0.2.2⟩; have HK : ∀ cs : Array Value, (∀ j, (w2.alloc (.cells cs 25)).cell? ⟨w.heap.size, j, none⟩ = (tarr 3 An an.length cn A ap.length c)[j]?) ∧ (∀ j, (w2.alloc (.cells cs 25)).cell? ⟨w.heap.size + 1, j, none⟩ = (tarr 3 (some ⟨g0, o0, none⟩) n dn B n d)[j]?) ∧ (w2.alloc (.cells cs 25)).cell? ⟨g0, o0 + i, none⟩ = some (.string s) := fun cs => ⟨fun j => ((bel1 w2 (.cells cs 25)).cell (p := ⟨w.heap.size, j, none⟩) (Nat.lt_of_lt_of_le X3.out.lt h2.size)).trans (HS1.1 j), fun j => ((bel1 w2 (.cells cs 25)).cell (p := ⟨w.heap.size + 1, j, none⟩) (Nat.lt_of_lt_of_le X4.out.lt h2.size)).trans (HS1.2.1 j), ((bel1 w2 (.cells cs 25)).cell (p := ⟨g0, o0 + i, none⟩) (Nat.lt_of_lt_of_le hg0 h2.size)).trans HS1.2.2⟩)
            | (go_at_call 22; refine (CF.out (wr.alloc (.cells #[.int .i64 0, .slice none 0 0, .slice none 0 0] 25)).drew D1.out).mono ?_; rintro e w2 ⟨h2, An3, cn3, A3, c3, rfl, ht3⟩; have rx := RD.out.below h2 RD.out.lt; have ry := rx.cell; have rz := rx.thaw; have HS1 : (∀ j, w2.cell? ⟨w.heap.size, j, none⟩ = (tarr 3 An an.length cn A ap.length c)[j]?) ∧ (∀ j, w2.cell? ⟨w.heap.size + 1, j, none⟩ = (tarr 3 (some ⟨g0, o0, none⟩) n dn B n d)[j]?) ∧ w2.cell? ⟨g0, o0 + i, none⟩ = some (.string s) := ⟨fun j => (h2.cell (p := ⟨w.heap.size, j, none⟩) (Nat.lt_of_lt_of_le X3.out.lt D1.out.size)).trans (HD0.1 j), fun j => (h2.cell (p := ⟨w.heap.size + 1, j, none⟩) (Nat.lt_of_lt_of_le X4.out.lt D1.out.size)).trans (HD0.2.1 j), (h2.cell (p := ⟨g0, o0 + i, none⟩) (Nat.lt_of_lt_of_le hg0 D1.out.size)).trans HD0.2.2⟩; have HP : ∀ e1 e2 e3, (∀ j, (((w2.setCell ⟨wr.heap.size, 0, none⟩ e1).setCell ⟨wr.heap.size, 1, none⟩ e2).setCell ⟨wr.heap.size, 2, none⟩ e3).cell? ⟨w.heap.size, j, none⟩ = (tarr 3 An an.length cn A ap.length c)[j]?) ∧ (∀ j, (((w2.setCell ⟨wr.heap.size, 0, none⟩ e1).setCell ⟨wr.heap.size, 1, none⟩ e2).setCell ⟨wr.heap.size, 2, none⟩ e3).cell? ⟨w.heap.size + 1, j, none⟩ = (tarr 3 (some ⟨g0, o0, none⟩) n dn B n d)[j]?) ∧ (((w2.setCell ⟨wr.heap.size, 0, none⟩ e1).setCell ⟨wr.heap.size, 1, none⟩ e2).setCell ⟨wr.heap.size, 2, none⟩ e3).cell? ⟨g0, o0 + i, none⟩ = some (.string s) := fun e1 e2 e3 => ⟨fun j => ((below_put3 (Below.refl wr.heap.size w2) (Nat.le_refl _) e1 e2 e3).cell (p := ⟨w.heap.size, j, none⟩) X3.out.lt).trans (HS1.1 j), fun j => ((below_put3 (Below.refl wr.heap.size w2) (Nat.le_refl _) e1 e2 e3).cell (p := ⟨w.heap.size + 1, j, none⟩) X4.out.lt).trans (HS1.2.1 j), ((below_put3 (Below.refl wr.heap.size w2) (Nat.le_refl _) e1 e2 e3).cell (p := ⟨g0, o0 + i, none⟩) hg0).trans HS1.2.2⟩)
            | fail)
          all_goals
            go_wp2_with fail
            go_meet
            first
              | exact ⟨_, An3, cn3, A3, c3, rfl, rfl, h2.size, RowB.new w2 25 _, (D0.out.trans (h2.mono D0.out.size)).trans ((bel1 w2 _).mono (D0.out.trans (h2.mono D0.out.size)).size), fun p hp => by injection hp with hp; subst hp; exact ht3.stay ((bel1 w2 _).mono h2.size)⟩
              | exact ⟨_, An3, cn3, A3, c3, rfl, rfl, Nat.le_refl _, ((rx.put 0 _).put 1 _).put 2 _, below_put3 (D1.out.trans (h2.mono D1.out.size)) (Nat.le_refl _) _ _ _, fun p hp => by injection hp with hp; subst hp; exact ht3.stay (below_put3 (Below.refl _ w2) (Nat.le_refl _) _ _ _)⟩
      case rest =>
      obtain ⟨H, An3, cn3, A3, c3, rfl, rfl, hH, hrow, hbx, htx⟩ := hcut
      obtain ⟨j, hj⟩ : ∃ j, j = i + 1 := ⟨_, rfl⟩
      have HBX2 := Lib.hid (HB.out.trans (hbx.mono HB.out.size))
      have X5 := Lib.hid (X4.out.below hbx X4.out.lt)
      have y1 := (hbx.cell (p := ⟨g, o + i * 3, none⟩) hg).trans v0
      have y2 := (hbx.cell (p := ⟨g, o + i * 3 + 1, none⟩) hg).trans v1
      have y3 := (hbx.cell (p := ⟨g, o + i * 3 + 2, none⟩) hg).trans v2
      have HTI2 := Lib.hid (HTI.out.below hbx)
      have HROW := Lib.hid hrow
      have HTX := Lib.hid htx
      have hB3 := HBX.out
      clear hbx hrow htx v0 v1 v2 HTI HS0 HD0 D0 D1 RD CF hH X3
      cases q with
      | none =>
        have HF : Hid (r = false) := by
          unfold Hid
          rw [HR.out]
          exact flRec_no HE.out HE'.out fun p hp => by rw [← hq2.out] at hp; cases hp
        have hf1 : (Option.none : Option Ty).isSome = false := rfl
        clear HTX HROW HTI2 HR
        subst hB3
        go_wp2_with fail
        go_quiet (fail)
        go_wp2_with fail
        (first | go_ret | go_ret2)
        exact ⟨by rw [HF.out]; rfl, below_drewN (HB1.out.trans (HBX2.out.mono HB1.out.size)) _⟩
      | some p =>
        have hf1 : (some p).isSome = true := rfl
        have CC : Hid (∀ w', Below wc.heap.size wc w' → Calls Tryz.prog 32 #[tv p An3 cn3 A3 c3, tv t Bn2 dn2 B2 d2] w' fun e w2 => e = .returned (.bool (flows p t)) ∧ Below w'.heap.size w' w2) := fun w' hb =>
          H1.out p (lk_mem hq2.out.symm).1 t (List.mem_of_getElem? HE'.out) w' P P' An3 cn3 A3 c3 Bn2 dn2 B2 d2 ((HTX.out p rfl).below hb) (HTI2.out.below hb)
        obtain ⟨z, hz⟩ : ∃ z, z = flows p t := ⟨_, rfl⟩
        have HZ := Lib.hid hz
        rw [← hz] at CC
        have HPQ : Hid (lk an ap s = some p) := hq2.out.symm
        have hbd : Hid (∀ d os, Below wc.heap.size wc (Go.Sort.grow (redrawn wc d) os)) := fun d os => below_regrown wc d os
        have zr0 := fun d os => cell_regrown (HROW.out.cell 0) d os
        have zr1 := fun d os => cell_regrown (HROW.out.cell 1) d os
        have zr2 := fun d os => cell_regrown (HROW.out.cell 2) d os
        have zb := fun d os => cell_regrown (X5.out.cell 2) d os
        have z1 := fun d os => cell_regrown y1 d os
        have z2 := fun d os => cell_regrown y2 d os
        have z3 := fun d os => cell_regrown y3 d os
        subst hB3
        obtain ⟨kp, np, pp⟩ := p
        obtain ⟨kt, nt, pt⟩ := t
        simp only [frow, kind_mk, names_mk, parts_mk] at zr0 zr1 zr2 z1 z2 z3 CC
        clear hz HTX HTI2 y1 y2 y3 hq2
        go_wp2_with fail
        refine wp_region_quiet_below (by kernel_rfl) (by kernel_rfl) ?_
        repeat (go_big_quiet_step (first
          | (go_at_call 32; exact Calls.regrown_of (CC.out _ (hbd.out _ _)))))
        refine wpQuiet_nil ?_
        intro _ hw'
        obtain ⟨⟨dq, osq⟩, hw''⟩ := hw'
        subst hw''
        have HX := Lib.hid (HBX2.out.trans ((below_regrown wc dq osq).mono HBX2.out.size))
        generalize Go.Sort.grow (redrawn wc dq) osq = WX at *
        clear CC hbd zr0 zr1 zr2 zb z1 z2 z3
        cases z
        · have HF : Hid (r = false) := by
            unfold Hid
            rw [HR.out]
            exact flRec_no HE.out HE'.out fun p hp => by rw [HPQ.out] at hp; injection hp with hp; rw [← hp]; exact HZ.out.symm
          go_wp2_with fail
          (first | go_ret | go_ret2)
          exact ⟨by rw [HF.out]; rfl, HB1.out.trans (HX.out.mono HB1.out.size)⟩
        · have HQ2 := Lib.hid (flRec_take HQ.out HE.out HE'.out ⟨_, HPQ.out, HZ.out.symm⟩)
          go_wp2_with fail
          go_roundg (n - j)
          case measure => omega
          case rel => exact ⟨j, by rw [hj]; go_num, by omega, by omega, by rw [hj]; exact HQ2.out, HX.out⟩
    · have hil : ¬ (i : Int) < (n : Int) := by omega
      obtain rfl : i = n := by omega
      have HF : Hid (r = true) := by
        unfold Hid
        rw [HR.out]
        exact flRec_all HQ.out HL.out.2.1 HL.out.2.2
      clear hi
      go_wp2_with fail
      (first | go_ret | go_ret2)
      exact ⟨by rw [HF.out]; rfl, HB1.out.trans (HB.out.mono HB1.out.size)⟩
end Tm
end Go.Proofs.YtifkjngclkklfaaGreatDoor
/- Contracts: the program's reader: lists. -/
namespace Go.Proofs.YtifkjngclkklfaaGreatDoor
open Go.RowKit
namespace Pg
open Ps

/-- A function value that is a rule: called with these arguments, in worlds of I. -/
def ListR (X : Cx) (P : Prop) (M : RT) (F : Nat) (args : Array Value) (I : World → Prop) (f : Nat) : Prop := ∀ (s : Sd) (w : World) (r : Fo × Sd), I w → (s.2 < 0 → P ∧ M f s.2 s.1 = some r) → (0 ≤ s.2 → r.2.2 = s.2) → PSt X w s →
  Calls Tryz.prog F args w (NodeQ X w r)
/-- What a list comes to: a row of its own. -/
def NodesQ (X : Cx) (n : Nat) (w : World) (r : Fo × Sd) (e : Ending) (w' : World) : Prop :=
  ∃ v K, e = .returned v ∧ (∃ cs, w'.ownsRow w.heap.size 71 6 v K.len cs ∧ FC w' (fun g => w.heap.size ≤ g ∧ v.ownBlock ≠ some g) K cs) ∧ PSt X w' r.2 ∧ Fr X.rb w.heap.size w w' ∧ (r.2.2 < 0 → r.1 = K) ∧ K.len ≤ n
theorem own_low {w : World} {b b' e size n : Nat} {v : Value} {xs : List Value} (h : w.ownsRow b e size v n xs) (hb : b' ≤ b) : w.ownsRow b' e size v n xs := by
  refine ⟨h.1, ?_⟩
  rcases h.2 with h2 | ⟨g, cap, cur, rfl, h1, h2⟩
  · exact .inl h2
  · exact .inr ⟨g, cap, cur, rfl, by omega, h2⟩
/-- A list that a call has made becomes one's own. -/
theorem LS.give {X : Cx} {w0 w w' : World} {s s' : Sd} {Rs : List Row} {Ks : List Kid} {v : Value} {K : Fo} (h : LS X w0 w s Rs Ks (.slice none 0 0) .nil) (hS : PSt X w' s') (hF : Fr X.rb w.heap.size w w')
    (ho : ∃ cs, w'.ownsRow w.heap.size 71 6 v K.len cs ∧ FC w' (fun g => w.heap.size ≤ g ∧ v.ownBlock ≠ some g) K cs) : LS X w0 w' s' Rs Ks v K := by
  have h' := h.step hS hF
  have hsz := h.size
  obtain ⟨cs, o1, o2⟩ := ho
  have hk : ∀ k ∈ Ks, KV w' (PB w0.heap.size Rs v) k.1 k.2.1 k.2.2 := fun k hk => (h.kvs k hk).keep hF.size (fun g hg hl => ⟨hF.block g hl (by have := hg.1; have := h.rb; omega), hg.1, hg.2.1, fun e => by
    have := (o1.lt _ e).1
    omega⟩)
  have hf : FC w' (PB w0.heap.size Rs v) K cs := o2.keep (Nat.le_refl _) (fun g hg _ => ⟨rfl, by omega, fun p hp e => by
    have := (h.rows p hp).1.lt
    omega, hg.2⟩)
  have hr : ∀ p ∈ Rs, v.ownBlock ≠ some p.1 := fun p hp e => by
    have := (h.rows p hp).1.lt
    have := (o1.lt _ e).1
    omega
  exact ⟨h'.st, h'.fr, h'.rows, h'.nd, hk, ⟨cs, own_low o1 hsz, hf⟩, hr, h.rb⟩
/-- What is known at each round of a list. -/
def InvR (X : Cx) (P : Prop) (M : RT) (last : List UInt8) (r : Fo × Sd) (fk : Nat) (sk : Sd) (K : Fo) : Prop :=
  (sk.2 < 0 → P ∧ ∃ r', restM X.l M last fk sk.2 sk.1 = some r' ∧ r.1 = K.app r'.1 ∧ r.2 = wantM X.l r'.2.2 r'.2.1 last) ∧ (0 ≤ sk.2 → r.2.2 = sk.2)
theorem rest_bad {l : List Tok} {M : RT} {last : List UInt8} {f : Nat} {b : Int} {i : Nat} {r : Fo × Nat × Int} (h : restM l M last f b i = some r) (hb : 0 ≤ b) : r = (.nil, i, b) := by
  unfold restM at h
  rw [if_pos (.inl hb)] at h
  injection h with h; exact h.symm
theorem InvR.next {X : Cx} {P : Prop} {M : RT} {last : List UInt8} {r t r' r'' : Fo × Sd} {f' : Nat} {K : Fo} {h : Hd} {k : Fo} (hP : P) (h1 : restM X.l M last f' t.2.2 t.2.1 = some r'') (h2 : r' = (t.1.app r''.1, r''.2)) (h3 : r.1 = K.app r'.1) (h4 : r.2 = wantM X.l r'.2.2 r'.2.1 last) (hn : t.2.2 < 0 → t.1 = .one h k) :
    InvR X P M last r f' t.2 (K.app (.one h k)) := by
  refine ⟨fun hb => ⟨hP, r'', h1, ?_, ?_⟩, fun hb => ?_⟩
  · rw [h3, h2, hn hb, Fo.app_assoc]
  · rw [h4, h2]
  · have := rest_bad h1 hb
    rw [h4, h2, this]
    dsimp only
    rw [wantM_bad hb]

set_option maxHeartbeats 4000000 in
set_option maxRecDepth 100000 in
theorem list_q (X : Cx) (P : Prop) (M : RT) (last : ByteArray) (f : Nat) (hf : f ≤ 1000000) (hlast : last.data.toList ∈ lits) (hne : sCom ≠ last.data.toList) (F : Nat) (bnd caps : Array Value) (I : World → Prop)
    (hI : ∀ w w', I w → Fr X.rb w.heap.size w w' → I w') (eF : ∀ w, (callFunc F (bnd ++ caps)).run Tryz.prog w = .ok (.enter F (bnd ++ caps)) w) (IR : ∀ f', f' ≤ f → ListR X P M F (bnd ++ caps) I f') (s : Sd) (w : World) (r : Fo × Sd) (hi : I w)
    (hr1 : s.2 < 0 → P ∧ ∃ q, listM X.l M last.data.toList f true s.2 s.1 = some q ∧ r = (q.1, wantM X.l q.2.2 q.2.1 last.data.toList)) (hr2 : 0 ≤ s.2 → r.2.2 = s.2) (hS : PSt X w s) :
    Calls Tryz.prog 97 #[X.p, .string last, .func (.func F) bnd caps] w (NodesQ X (f + 1) w r) := by
  have LS0 := Lib.hid (LS.start hS)
  have HI := Lib.hid hI
  have HII := Lib.hid hi
  have HIR := Lib.hid IR
  have HL := Lib.hid hlast
  have HNE := Lib.hid hne
  cases q : tk X s last.data.toList
  · have CT := Lib.hid (take_no X s last w hS hlast q)
    obtain ⟨f0, t, ht1, ht2, hf0, hinv⟩ : ∃ (f0 : Nat) (t : Fo × Sd), (s.2 < 0 → P ∧ M f0 s.2 s.1 = some t) ∧ (0 ≤ s.2 → t.2.2 = s.2) ∧ f0 ≤ f ∧ (∀ h k, (t.2.2 < 0 → t.1 = .one h k) → InvR X P M last.data.toList r f0 t.2 (.one h k)) := by
      by_cases hs : 0 ≤ s.2
      · exact ⟨f, (.nil, s), fun h => absurd h (by omega), fun _ => rfl, Nat.le_refl _, fun h k _ => ⟨fun h => absurd h (by dsimp only; omega), fun _ => hr2 hs⟩⟩
      · have hs' : s.2 < 0 := by omega
        obtain ⟨hP, qq, hq, hrq⟩ := hr1 hs'
        have hnl := (tk_bad q).resolve_left hs
        obtain ⟨f', t, r', e1, e2, e3, e4⟩ := list_step hq hs' (by rw [hnl]; simp)
        refine ⟨f', t, fun _ => ⟨hP, e2⟩, fun h => absurd h hs, by omega, fun h k hn => ?_⟩
        have := InvR.next (r := r) (K := .nil) (r' := qq) hP e3 e4 (by rw [hrq]; rfl) (by rw [hrq]) hn
        exact this
    have C1 : Hid (∀ w', I w' → PSt X w' s → Calls Tryz.prog F (bnd ++ caps) w' (NodeQ X w' t)) := fun w' h1 h2 => IR f0 hf0 s w' t h1 ht1 ht2 h2
    have HINV := Lib.hid hinv
    clear hS hr1 hr2 hlast hne q ht1 ht2 hinv hI hi IR
    go_enter Tryz.func97, Tryz.ntmps97
    go_wp2_with fail
    refine CT.out.mono ?_
    rintro e w1 ⟨rfl, hS1, hF1⟩
    have L1 := Lib.hid (LS0.out.step hS1 hF1)
    have I1 := Lib.hid (HI.out _ _ HII.out hF1)
    clear hS1 hF1 CT
    go_wp2_with fail
    refine (C1.out _ I1.out L1.out.st).mono ?_
    rintro e w2 ⟨h1, k1, A1, c1, rfl, hK1, hS2, hF2, hN1⟩
    have L2 := Lib.hid (L1.out.kid hS2 hF2 hK1)
    have L3 := Lib.hid (L2.out.lit (k := .one h1 k1) (cs := ncc h1 A1 k1.len c1) (FC.one (L2.out.kidP 0 rfl)) w2.heap.size rfl (show 1 ≤ maxLen by unfold maxLen; omega)).noK
    have I3 := Lib.hid (HI.out _ _ HII.out L3.out.fr)
    have INV0 := Lib.hid (HINV.out h1 k1 hN1)
    obtain ⟨x1, x2, x3, x4, x5⟩ := h1
    clear hK1 hS2 hF2 hN1 HINV C1 L1 L2 I1
    go_wp2_with fail
    go_loopg [7] (f + 1) (fun kx s7 wr => ∃ (fk : Nat) (sk : Sd) (Kk : Fo) (u : Value), u = s7 ∧ fk ≤ kx ∧ Kk.len + fk ≤ f + 1 ∧ Hid (InvR X P M last.data.toList r fk sk Kk) ∧ Hid (I wr) ∧ Hid (LS X w wr sk [] [] s7 Kk))
    case atStart => exact ⟨f0, t.2, .one ⟨x1, x2, x3, x4, x5⟩ k1, _, rfl, by omega, by show 1 + f0 ≤ f + 1; omega, INV0.out, I3.out, L3.out⟩
    case round =>
      obtain ⟨fk, sk, Kk, u, rfl, hkx, hlen, HG, HJ, LK⟩ := hrel
      cases qc : tk X sk sCom
      · have CT := Lib.hid (take_no X sk ⟨#[44]⟩ _ LK.out.st (by decide) qc)
        have QC := Lib.hid (tk_bad qc)
        clear qc
        go_wp2_with fail
        refine CT.out.mono ?_
        rintro e w3 ⟨rfl, hS3, hF3⟩
        have L4 := Lib.hid (LK.out.step hS3 hF3)
        have CW := Lib.hid (want_any X sk last w3 hS3 HL.out)
        clear hS3 hF3 CT
        go_wp2_with fail
        refine CW.out.mono ?_
        rintro e w4 ⟨rfl, hS4, hF4⟩
        have L5 := Lib.hid (L4.out.step hS4 hF4)
        clear hS4 hF4 CW
        go_wp2
        go_ret
        obtain ⟨cs, o1, o2⟩ := L5.out.own
        refine ⟨u, Kk, rfl, ⟨cs, o1, o2.keep (Nat.le_refl _) (fun g hg _ => ⟨rfl, hg.1, hg.2.2⟩)⟩, PSt.to L5.out.st (fun h => ?_) (fun h => ?_), L5.out.fr, fun h => ?_, by omega⟩
        · have hs : sk.2 < 0 := by
            by_cases hh : sk.2 < 0
            · exact hh
            · unfold wantS at h; rw [wantM_bad (by omega)] at h; exact absurd h hh
          obtain ⟨hP, r', g1, g2, g3⟩ := HG.out.1 hs
          rw [g3, (rest_stop g1 (.inr (QC.out.resolve_left (by omega)))).2]
          rfl
        · by_cases hh : sk.2 < 0
          · obtain ⟨hP, r', g1, g2, g3⟩ := HG.out.1 hh
            rw [g3, (rest_stop g1 (.inr (QC.out.resolve_left (by omega)))).2]
            rfl
          · rw [HG.out.2 (by omega)]
            unfold wantS
            rw [wantM_bad (by omega)]
        · by_cases hh : sk.2 < 0
          · obtain ⟨hP, r', g1, g2, g3⟩ := HG.out.1 hh
            rw [g2, (rest_stop g1 (.inr (QC.out.resolve_left (by omega)))).1, Fo.app_nil]
          · rw [HG.out.2 (by omega)] at h; exact absurd h hh
      · obtain ⟨hg, hm⟩ := tk_good qc
        obtain ⟨hP, rr', g1, g2, g3⟩ := HG.out.1 hg
        obtain ⟨f', tt, r'', e1, e2, e3, e4⟩ := rest_go g1 hg hm HNE.out
        have CT := Lib.hid (take_yes X sk ⟨#[44]⟩ _ LK.out.st (by decide) qc)
        have C2 : Hid (∀ w', I w' → PSt X w' (sk.1 + 1, sk.2) → Calls Tryz.prog F (bnd ++ caps) w' (NodeQ X w' tt)) := fun w' h1 h2 => HIR.out f' (by omega) (sk.1 + 1, sk.2) w' tt h1 (fun _ => ⟨hP, e2⟩) (fun h => absurd h (by dsimp only; omega)) h2
        have HINV2 := Lib.hid (fun (h : Hd) (k : Fo) (hn : tt.2.2 < 0 → tt.1 = .one h k) => InvR.next (r := r) (K := Kk) hP e3 e4 g2 g3 hn)
        have HF := Lib.hid e1
        clear qc hg hm hP g1 g2 g3 e1 e2 e3 e4 HG
        go_wp2_with fail
        refine CT.out.mono ?_
        rintro e w3 ⟨rfl, hS3, hF3⟩
        have L4 := Lib.hid (LK.out.step hS3 hF3)
        have I4 := Lib.hid (HI.out _ _ HII.out L4.out.fr)
        clear hS3 hF3 CT
        go_wp2_with fail
        refine (C2.out _ I4.out L4.out.st).mono ?_
        rintro e w5 ⟨h5, k5, A5, c5, rfl, hK5, hS5, hF5, hN5⟩
        have INV := Lib.hid (HINV2.out h5 k5 hN5)
        obtain ⟨z1, z2, z3, z4, z5⟩ := h5
        have M6 := Lib.hid ((L4.out.kid hS5 hF5 hK5).other (bel1 _ (.cells (ncc ⟨z1, z2, z3, z4, z5⟩ A5 k5.len c5) 71)))
        obtain ⟨cs, o1, o2⟩ := M6.out.own
        have O1 := Lib.hid o1
        have O2 := Lib.hid o2
        obtain ⟨AK, cK, eK, hcK, _⟩ := M6.out.list
        subst eK
        obtain ⟨i0, hi0, hz0, hz1, hz2⟩ := info_parts info25
        have b5 := Lib.hid M6.out.size
        have b3' : Kk.len + 1 ≤ maxLen := by unfold maxLen; omega
        have b4' : (Kk.len + 1) * 72 ≤ 140737488355328 := by omega
        have CN := Lib.hid (cells_nd w5 (.int .i64 z1) (.int .i64 z2) (.int .i64 z3) (.string z4) (.int .i64 z5) (.slice A5 k5.len c5))
        clear o1 o2 hK5 hS5 hF5 hN5 HINV2 C2 I4 L4
        go_wp2_with (at_builtin; refine wpList_append_at rfl (.tmp 16) (.tmp 19) 69 rfl w.heap.size 71 i0 (.agg #[.int .i64 0, .int .i64 0, .int .i64 0, .string ⟨#[]⟩, .int .i64 0, .slice none 0 0]) 6 72 Tryz.underlying69 hi0 hz0 hz1 hz2 rfl (by decide) _ Kk.len cs rfl O1.out ⟨w5.heap.size, 0, none⟩ 1 1 [.int .i64 z1, .int .i64 z2, .int .i64 z3, .string z4, .int .i64 z5, .slice A5 k5.len c5] rfl rfl (by simpa using CN.out) (one_nd ⟨z1, z2, z3, z4, z5⟩ _ _ _) b3' b4' b5.out ?_)
        intro v' w7 hown' hgrow hat
        have M7 := Lib.hid (M6.out.push ⟨O1.out, O2.out⟩ (k := .one ⟨z1, z2, z3, z4, z5⟩ k5) (FC.one (M6.out.kidP 0 rfl)) hown' hgrow (fun j hj => by
          rcases hat j hj with h | h
          · exact .inl h
          · exact .inr (by simpa using h))).noK
        have I7 := Lib.hid (HI.out _ _ HII.out M7.out.fr)
        have hKl : (Kk.app (.one ⟨z1, z2, z3, z4, z5⟩ k5)).len = Kk.len + 1 := by rw [Fo.len_app]; rfl
        have HKL := Lib.hid hKl
        have hf1 := HF.out
        clear hown' hgrow hat b3' b4' b5 CN O1 O2 M6 hKl
        go_wp2_with fail
        go_roundg f'
        case measure => omega
        case rel => exact ⟨f', tt.2, Kk.app (.one ⟨z1, z2, z3, z4, z5⟩ k5), _, rfl, by omega, by rw [HKL.out]; omega, INV.out, I7.out, M7.out⟩
  · have CT := Lib.hid (take_yes X s last w hS hlast q)
    obtain ⟨hg, hm⟩ := tk_good q
    obtain ⟨hP, qq, hq, hrq⟩ := hr1 hg
    have hql := list_first hq hm
    have hR : r = (.nil, (s.1 + 1, s.2)) := by
      rw [hrq, hql]
      dsimp only
      unfold wantM
      rw [if_neg (by omega), if_pos hm]
    have HR := Lib.hid hR
    clear hS hr1 hr2 hlast hne q hI hi IR hg hm hP hq hrq hql hR
    go_enter Tryz.func97, Tryz.ntmps97
    go_wp2_with fail
    refine CT.out.mono ?_
    rintro e w1 ⟨rfl, hS1, hF1⟩
    have S1 := Lib.hid hS1
    have F1 := Lib.hid hF1
    clear hS1 hF1
    go_wp2
    go_ret
    exact ⟨_, .nil, rfl, ⟨[], World.ownsRow_nil _ _ _ _, by rw [FC]⟩, by rw [HR.out]; exact S1.out, F1.out, fun _ => by rw [HR.out], Nat.zero_le _⟩
end Pg
end Go.Proofs.YtifkjngclkklfaaGreatDoor
/- Mathematics: the tokens of a text are such as a reader wants. -/
namespace Go.Proofs.YtifkjngclkklfaaGreatDoor
open Ps
theorem tok_text (s : ByteArray) (k : Nat) : (tokK s k).text.data.toList = (tl s (atK s k)).take (firstL (tl s (atK s k))).2.1 := by
  unfold tokK tl
  dsimp only
  rw [ByteArray.data_extract, Array.toList_extract, List.extract_eq_take_drop]
  congr 1
  omega
/-- Each token is read somewhere, rightly. -/
theorem lexF_mem (s : ByteArray) : ∀ (f k n : Nat) (l : List Tok), lexF s f k n = .good l → ∀ t ∈ l, ∃ k, t = tokK s k ∧ errK s k = 0
  | 0, k, n, l, h => by simp [lexF] at h
  | f + 1, k, n, l, h => by
    by_cases he : errK s k = 0
    · by_cases hn : n = 4000
      · subst hn; rw [lexF_many he] at h; cases h
      · by_cases h0 : (tokK s k).kind = 0
        · rw [lexF_end he hn h0] at h
          cases h
          exact fun t ht => ⟨k, by simpa using ht, he⟩
        · rw [lexF_next he hn h0] at h
          cases hr : lexF s f (endK s k) (n + 1) with
          | bad e a => rw [hr] at h; cases h
          | good B =>
            rw [hr] at h
            cases h
            have h2 := lexF_mem s f _ _ B hr
            intro t ht
            rcases List.mem_cons.1 ht with rfl | ht
            · exact ⟨k, rfl, he⟩
            · exact h2 t ht
    · rw [lexF_err he] at h; cases h
theorem lexF_len (s : ByteArray) : ∀ (f k n : Nat) (l : List Tok), n ≤ 4000 → lexF s f k n = .good l → n + l.length ≤ 4000
  | 0, k, n, l, _, h => by simp [lexF] at h
  | f + 1, k, n, l, hn0, h => by
    by_cases he : errK s k = 0
    · by_cases hn : n = 4000
      · subst hn; rw [lexF_many he] at h; cases h
      · by_cases h0 : (tokK s k).kind = 0
        · rw [lexF_end he hn h0] at h
          cases h
          simp only [List.length_cons, List.length_nil]
          omega
        · rw [lexF_next he hn h0] at h
          cases hr : lexF s f (endK s k) (n + 1) with
          | bad e a => rw [hr] at h; cases h
          | good B =>
            rw [hr] at h
            cases h
            have := lexF_len s f _ _ B (by omega) hr
            simp only [List.cons_append, List.nil_append, List.length_cons]
            omega
    · rw [lexF_err he] at h; cases h
theorem lexR_len {s : ByteArray} {l : List Tok} (h : lexR s = .good l) : l.length ≤ 4000 := by
  unfold lexR at h
  split at h
  · cases h
  · split at h
    · cases h
    · have := lexF_len s _ _ _ _ (by omega) h
      omega
theorem lits_parts : ∀ x ∈ lits, x ≠ [] ∧ digN (x.getD 0 0).toNat = false ∧ (x.getD 0 0).toNat ≠ 34 ∧ (letN (x.getD 0 0).toNat = true → x ∈ keys) := by decide
theorem tok_lits {s : ByteArray} {k : Nat} (he : errK s k = 0) (h0 : (tokK s k).kind ≠ 0) (h2 : (tokK s k).kind ≠ 2) (h5 : (tokK s k).kind ≠ 5) : ∀ x ∈ lits, (tokK s k).text.data.toList ≠ x := by
  intro x hx e
  obtain ⟨p1, p2, p3, p4⟩ := lits_parts x hx
  rw [tok_text] at e
  have hk : (tokK s k).kind = (firstL (tl s (atK s k))).1 := rfl
  rw [hk] at h0 h2 h5
  unfold errK at he
  generalize tl s (atK s k) = l at *
  have hl : l ≠ [] := by
    rintro rfl
    exact h0 rfl
  have hd : x.getD 0 0 = l.getD 0 0 := by
    cases l with
    | nil => exact absurd rfl hl
    | cons b t =>
      cases hn : (firstL (b :: t)).2.1 with
      | zero => rw [hn, List.take_zero] at e; exact absurd e.symm p1
      | succ n => rw [hn, List.take_succ_cons] at e; rw [← e]; rfl
  rw [hd] at p2 p3 p4
  unfold firstL at h0 h2 h5 he e
  rw [if_neg hl] at h0 h2 h5 he e
  by_cases hlet : letN (l.getD 0 0).toNat = true
  · rw [if_pos hlet] at h0 h2 h5 he e
    unfold wordL at h0 h2 h5 he e
    by_cases hkey : keyL (l.take (wLen l)) = true
    · rw [if_pos hkey] at h2; exact h2 rfl
    · rw [if_neg hkey] at h0 e he
      split at e
      · rename_i hw; rw [if_pos hw] at h0; exact h0 rfl
      · have hm := p4 hlet
        dsimp only at e
        rw [← e] at hm
        exact hkey (by unfold keyL; simpa using hm)
  · rw [if_neg hlet] at h0 h2 h5 he e
    by_cases hdig : digN (l.getD 0 0).toNat = true
    · rw [hdig] at p2; cases p2
    · rw [if_neg hdig] at h0 h2 h5 he e
      by_cases hq : (l.getD 0 0).toNat = 34
      · exact p3 hq
      · rw [if_neg hq] at h0 h5
        unfold signL at h0 h5
        split at h5
        · exact h5 rfl
        · rename_i hp
          rw [if_neg hp] at h0
          split at h5
          · exact h5 rfl
          · rename_i hi
            rw [if_neg hi] at h0
            exact h0 rfl
/-- The tokens of a text are such as a reader wants. -/
theorem lexR_wf {s : ByteArray} {l : List Tok} (h : lexR s = .good l) (hle : l.length ≤ 4000) : Wf2 l := by
  have hg := (lexR_good h).1
  obtain ⟨_, hpos, hi⟩ := hg
  have hm : ∀ t ∈ l, ∃ k, t = tokK s k ∧ errK s k = 0 := by
    unfold lexR at h
    split at h
    · cases h
    · split at h
      · cases h
      · exact lexF_mem s _ _ _ _ h
  refine ⟨⟨hpos, fun i hl hk => ?_, hle⟩, fun i hl hn hk => ?_, fun i hl h2 h5 hn => ?_⟩
  · have := (hi i hl).2.1
    by_cases e : i + 1 = l.length
    · exact absurd (this.2 e) hk
    · omega
  · have := (hi i hl).2.1.1 hk
    omega
  · obtain ⟨k, e, he⟩ := hm l[i] (List.getElem_mem hl)
    rw [e] at h2 h5 ⊢
    refine tok_lits he ?_ h2 h5
    rw [← e]
    intro hk
    have := (hi i hl).2.1.1 hk
    omega
end Go.Proofs.YtifkjngclkklfaaGreatDoor
