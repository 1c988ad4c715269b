/- Edits: what they are, how a slice of them reads, when they are sound. -/
import Derived.Test.YtendbkbjmibchaaBase
import Derived.Deep.RegionHeld3
namespace Go.Proofs.Ytendbkbjmibchaa
open Go.RowKit

/-- An edit. -/
structure Ed where
  f : Int
  t : Int
  x : ByteArray

/-- The address A holds the edits es, three cells each, below block B. -/
def Eds (w : World) (B : Nat) (A : Option Addr) (es : List Ed) : Prop :=
  0 < es.length → ∃ b off : Nat, A = some ⟨b, off, none⟩ ∧ b < B ∧ ∀ i (h : i < es.length),
    w.cell? ⟨b, off + i * 3, none⟩ = some (.int .i64 es[i].f) ∧ w.cell? ⟨b, off + i * 3 + 1, none⟩ = some (.int .i64 es[i].t) ∧ w.cell? ⟨b, off + i * 3 + 2, none⟩ = some (.string es[i].x)
theorem Eds.below {w w' : World} {B : Nat} {A : Option Addr} {es : List Ed} (h : Eds w B A es) (hb : Below B w w') : Eds w' B A es := fun hn => by
  obtain ⟨b, off, e, hlt, hc⟩ := h hn
  exact ⟨b, off, e, hlt, fun i hi => ⟨(hb.cell (p := ⟨b, off + i * 3, none⟩) hlt).trans (hc i hi).1, (hb.cell (p := ⟨b, off + i * 3 + 1, none⟩) hlt).trans (hc i hi).2.1, (hb.cell (p := ⟨b, off + i * 3 + 2, none⟩) hlt).trans (hc i hi).2.2⟩⟩
theorem Eds.more {w : World} {B B' : Nat} {A : Option Addr} {es : List Ed} (h : Eds w B A es) (hB : B ≤ B') : Eds w B' A es := fun hn => by
  obtain ⟨b, off, e, hlt, hc⟩ := h hn
  exact ⟨b, off, e, by omega, hc⟩
/-- Edits of which every number fits an int, every text a string. -/
def Fits (es : List Ed) : Prop := ∀ e ∈ es, -9223372036854775808 ≤ e.f ∧ e.f ≤ 9223372036854775807 ∧ -9223372036854775808 ≤ e.t ∧ e.t ≤ 9223372036854775807

/-- Does an edit begin where the one ahead ended, or before? -/
def near : Option Int → Int → Bool
  | some q, f => decide (f ≤ q)
  | none, _ => false
/-- What is wrong with edits, the first thing: 0 if nothing. p: where the one ahead ended. -/
def sndGo (n : Int) : Option Int → List Ed → Int
  | _, [] => 0
  | p, e :: r => if e.f < 0 ∨ e.t < e.f ∨ n < e.t then 6 else if e.f = e.t ∧ e.x.size = 0 then 1 else if near p e.f = true then 7 else sndGo n (some e.t) r
def snd (es : List Ed) (n : Int) : Int := if 512 < es.length then 5 else sndGo n none es

/-- The end of the edit ahead of place k. -/
def prv (es : List Ed) (k : Nat) : Option Int := if h : 0 < k ∧ k - 1 < es.length then some (es[k - 1]'h.2).t else none

theorem prv_succ (es : List Ed) (k : Nat) (hk : k < es.length) : prv es (k + 1) = some es[k].t := by
  unfold prv
  rw [dif_pos ⟨by omega, by simpa using hk⟩]
  simp
theorem prv_zero (es : List Ed) : prv es 0 = none := by unfold prv; rw [dif_neg (by omega)]
theorem sndGo_at (n : Int) (es : List Ed) (k : Nat) (hk : k < es.length) : sndGo n (prv es k) (es.drop k) =
    if es[k].f < 0 ∨ es[k].t < es[k].f ∨ n < es[k].t then 6 else if es[k].f = es[k].t ∧ es[k].x.size = 0 then 1 else if near (prv es k) es[k].f = true then 7 else sndGo n (prv es (k + 1)) (es.drop (k + 1)) := by
  rw [List.drop_eq_getElem_cons hk, sndGo, prv_succ es k hk]
theorem empty_iff (x : ByteArray) : x.toList.isEmpty = decide (x.size = 0) := by
  rw [ByteArray.toList_eq, Bool.eq_iff_iff, List.isEmpty_iff, decide_eq_true_iff, ← List.length_eq_zero_iff, Array.length_toList]
  exact Iff.rfl

set_option maxHeartbeats 4000000 in
set_option maxRecDepth 100000 in
theorem sound_edits (A : Option Addr) (cap : Nat) (es : List Ed) (n : Int) (w : World) (hx : Eds w w.heap.size A es) (hl : es.length ≤ 100000) :
    Calls Try.prog 35 #[.slice A es.length cap, .int .i64 n] w fun e w' => e = .returned (.int .i64 (snd es n)) ∧ Below w.heap.size w w' := by
  have Hx := Lib.hid hx
  clear hx
  by_cases hc : 512 < es.length
  · have hc' : (512 : Int) < (es.length : Int) := by omega
    have E : Hid (snd es n = 5) := by unfold Hid snd; rw [if_pos hc]
    go_enter Try.func35, Try.ntmps35
    go_wp2
    go_ret
    exact ⟨ri E.out.symm, Below.refl _ _⟩
  · have hc' : (es.length : Int) ≤ 512 := by omega
    have E : Hid (snd es n = sndGo n (prv es 0) (es.drop 0)) := by unfold Hid snd; rw [if_neg hc, prv_zero]; rfl
    clear hc
    go_enter Try.func35, Try.ntmps35
    go_wp2_with fail
    go_loopw [4, 5, 6, 12, 17, 34, 45] (fun _ _ _ i _ _ _ wr => ∃ k : Nat, k ≤ es.length ∧ i = .int .i64 k ∧ Below w.heap.size w wr ∧ snd es n = sndGo n (prv es k) (es.drop k)) (fun _ _ _ i _ _ _ _ => es.length - (intOf i).toNat)
    case atStart => exact ⟨0, by omega, rfl, Below.refl _ _, E.out⟩
    case round =>
      obtain ⟨k, hk, rfl, hb, hs⟩ := hrel
      have HB := Lib.hid hb
      have HS := Lib.hid hs
      clear hb hs
      by_cases hlt : k < es.length
      · obtain ⟨b, off, rfl, hbl, hcell⟩ := (Hx.out.below HB.out) (by omega)
        have hbw : b < wr.heap.size := Nat.lt_of_lt_of_le hbl HB.out.size
        have HN := Lib.hid (HS.out.trans (sndGo_at n es k hlt))
        have HC := Lib.hid hcell
        obtain ⟨q0, q1, q2⟩ := hcell k hlt
        obtain ⟨y, hy⟩ : ∃ y, y = es[k] := ⟨_, rfl⟩
        rw [← hy] at q0 q1 q2
        have HY := Lib.hid hy
        clear hcell hy
        have HB' := Lib.hid (HB.out.alloc HB.out.size (.cells #[.int .i64 y.f, .int .i64 y.t, .string y.x] 68))
        by_cases g1 : y.f < 0 ∨ y.t < y.f ∨ n < y.t
        · have R : Hid (snd es n = 6) := by unfold Hid; rw [HN.out, ← HY.out, if_pos g1]
          go_wp2_with fail
          all_goals
            go_ret
            exact ⟨ri R.out.symm, HB'.out⟩
        · have G1 := Lib.hid g1
          have h0 : 0 ≤ y.f := by omega
          have h1 : y.f ≤ y.t := by omega
          have h2 : y.t ≤ n := by omega
          clear g1
          by_cases g2 : y.f = y.t ∧ y.x.size = 0
          · have R : Hid (snd es n = 1) := by unfold Hid; rw [HN.out, ← HY.out, if_neg G1.out, if_pos g2]
            have g3 : (y.f == y.t) = true := by simpa using g2.1
            have g4 : y.x.toList.isEmpty = true := by rw [empty_iff]; simpa using g2.2
            clear g2
            go_wp2_with fail
            all_goals
              go_ret
              exact ⟨ri R.out.symm, HB'.out⟩
          · have G2 := Lib.hid g2
            clear g2
            by_cases g3 : y.f = y.t
            case' pos =>
              have g4 : y.x.toList.isEmpty = false := by rw [empty_iff]; exact decide_eq_false (fun h => G2.out ⟨g3, h⟩)
              have g5 : (y.f == y.t) = true := by simpa using g3
              clear g3
            case' neg =>
              have g5 : (y.f == y.t) = false := by simpa using g3
              clear g3
            all_goals
              by_cases hk0 : k = 0
              · have hd0 : decide (0 < k) = false := by simp; omega
                have R : Hid (snd es n = sndGo n (prv es (k + 1)) (es.drop (k + 1))) := by
                  unfold Hid; rw [HN.out, ← HY.out, if_neg G1.out, if_neg G2.out]
                  have : prv es k = none := by rw [hk0, prv_zero]
                  rw [this]; rfl
                clear hk0
                go_wp2_with fail
                go_quiet (fail)
                go_wp2
                go_roundw
                case rel => exact ⟨k + 1, by omega, by go_num, below_drewN HB'.out _, R.out⟩
                case measure => simp [intOf]; omega
              · have hkp : 0 < k := by omega
                obtain ⟨z, hz⟩ : ∃ z, z = es[k - 1].t := ⟨_, rfl⟩
                have q3 := (HC.out (k - 1) (by omega)).2.1
                rw [← hz] at q3
                have HP : Hid (prv es k = some z) := by unfold Hid prv; rw [dif_pos ⟨hkp, by omega⟩, hz]
                have hkp' : (1 : Int) ≤ (k : Int) := by omega
                have hkp2 : (0 : Int) < (k : Int) := by omega
                have hkp3 : (k : Int) - 1 < (es.length : Int) := by omega
                clear hz hk0
                by_cases g6 : y.f ≤ z
                · have R : Hid (snd es n = 7) := by
                    unfold Hid; rw [HN.out, ← HY.out, if_neg G1.out, if_neg G2.out, HP.out, if_pos (by simpa [near] using g6)]
                  go_wp2_with fail
                  go_quiet (fail)
                  go_wp2
                  go_ret
                  exact ⟨ri R.out.symm, below_drewN HB'.out _⟩
                · have R : Hid (snd es n = sndGo n (prv es (k + 1)) (es.drop (k + 1))) := by
                    unfold Hid; rw [HN.out, ← HY.out, if_neg G1.out, if_neg G2.out, HP.out, if_neg (by simpa [near] using g6)]
                  have g6' : decide (y.f ≤ z) = false := by simpa using g6
                  clear g6
                  go_wp2_with fail
                  go_quiet (fail)
                  go_wp2
                  go_roundw
                  case rel => exact ⟨k + 1, by omega, by go_num, below_drewN HB'.out _, R.out⟩
                  case measure => simp [intOf]; omega
      · obtain rfl : k = es.length := by omega
        have R : Hid (snd es n = 0) := by unfold Hid; rw [HS.out, List.drop_length]; unfold sndGo; rfl
        go_wp2
        go_ret
        exact ⟨ri R.out.symm, HB.out⟩
end Go.Proofs.Ytendbkbjmibchaa
