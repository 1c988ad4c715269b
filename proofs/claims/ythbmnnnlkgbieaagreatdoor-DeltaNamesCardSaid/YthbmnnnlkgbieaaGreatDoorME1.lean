/- Edits: what they are, how a slice of them reads, when they are sound. -/
import Derived.Test.YthbmnnnlkgbieaaGreatDoorBase
import Derived.Deep.RegionHeld3
import Derived.Test.YthbmnnnlkgbieaaGreatDoorWR
import Derived.Test.YthbmnnnlkgbieaaGreatDoorShB
namespace Go.Proofs.YthbmnnnlkgbieaaGreatDoor
open Go.RowKit

/-- An edit. -/
structure Ed where
  f : Int
  t : Int
  x : ByteArray

/-- The address A holds the edits es, three cells each, below block B. -/
def Eds (w : World) (B : Nat) (A : Option Addr) (es : List Ed) : Prop :=
  0 < es.length → ∃ b off : Nat, A = some ⟨b, off, none⟩ ∧ b < B ∧ ∀ i (h : i < es.length),
    w.cell? ⟨b, off + i * 3, none⟩ = some (.int .i64 es[i].f) ∧ w.cell? ⟨b, off + i * 3 + 1, none⟩ = some (.int .i64 es[i].t) ∧ w.cell? ⟨b, off + i * 3 + 2, none⟩ = some (.string es[i].x)
theorem Eds.below {w w' : World} {B : Nat} {A : Option Addr} {es : List Ed} (h : Eds w B A es) (hb : Below B w w') : Eds w' B A es := fun hn => by
  obtain ⟨b, off, e, hlt, hc⟩ := h hn
  exact ⟨b, off, e, hlt, fun i hi => ⟨(hb.cell (p := ⟨b, off + i * 3, none⟩) hlt).trans (hc i hi).1, (hb.cell (p := ⟨b, off + i * 3 + 1, none⟩) hlt).trans (hc i hi).2.1, (hb.cell (p := ⟨b, off + i * 3 + 2, none⟩) hlt).trans (hc i hi).2.2⟩⟩
theorem Eds.more {w : World} {B B' : Nat} {A : Option Addr} {es : List Ed} (h : Eds w B A es) (hB : B ≤ B') : Eds w B' A es := fun hn => by
  obtain ⟨b, off, e, hlt, hc⟩ := h hn
  exact ⟨b, off, e, by omega, hc⟩
/-- Edits of which every number fits an int, every text a string. -/
def Fits (es : List Ed) : Prop := ∀ e ∈ es, -9223372036854775808 ≤ e.f ∧ e.f ≤ 9223372036854775807 ∧ -9223372036854775808 ≤ e.t ∧ e.t ≤ 9223372036854775807

/-- Does an edit begin where the one ahead ended, or before? -/
def near : Option Int → Int → Bool
  | some q, f => decide (f ≤ q)
  | none, _ => false
/-- What is wrong with edits, the first thing: 0 if nothing. p: where the one ahead ended. -/
def sndGo (n : Int) : Option Int → List Ed → Int
  | _, [] => 0
  | p, e :: r => if e.f < 0 ∨ e.t < e.f ∨ n < e.t then 6 else if e.f = e.t ∧ e.x.size = 0 then 1 else if near p e.f = true then 7 else sndGo n (some e.t) r
def snd (es : List Ed) (n : Int) : Int := if 512 < es.length then 5 else sndGo n none es

/-- The end of the edit ahead of place k. -/
def prv (es : List Ed) (k : Nat) : Option Int := if h : 0 < k ∧ k - 1 < es.length then some (es[k - 1]'h.2).t else none

theorem prv_succ (es : List Ed) (k : Nat) (hk : k < es.length) : prv es (k + 1) = some es[k].t := by
  unfold prv
  rw [dif_pos ⟨by omega, by simpa using hk⟩]
  simp
theorem prv_zero (es : List Ed) : prv es 0 = none := by unfold prv; rw [dif_neg (by omega)]
theorem sndGo_at (n : Int) (es : List Ed) (k : Nat) (hk : k < es.length) : sndGo n (prv es k) (es.drop k) =
    if es[k].f < 0 ∨ es[k].t < es[k].f ∨ n < es[k].t then 6 else if es[k].f = es[k].t ∧ es[k].x.size = 0 then 1 else if near (prv es k) es[k].f = true then 7 else sndGo n (prv es (k + 1)) (es.drop (k + 1)) := by
  rw [List.drop_eq_getElem_cons hk, sndGo, prv_succ es k hk]
theorem empty_iff (x : ByteArray) : x.toList.isEmpty = decide (x.size = 0) := by
  rw [ByteArray.toList_eq, Bool.eq_iff_iff, List.isEmpty_iff, decide_eq_true_iff, ← List.length_eq_zero_iff, Array.length_toList]
  exact Iff.rfl

set_option maxHeartbeats 4000000 in
set_option maxRecDepth 100000 in
theorem sound_edits (A : Option Addr) (cap : Nat) (es : List Ed) (n : Int) (w : World) (hx : Eds w w.heap.size A es) (hl : es.length ≤ 100000) :
    Calls Tryz.prog 26 #[.slice A es.length cap, .int .i64 n] w fun e w' => e = .returned (.int .i64 (snd es n)) ∧ Below w.heap.size w w' := by
  have Hx := Lib.hid hx
  clear hx
  by_cases hc : 512 < es.length
  · have hc' : (512 : Int) < (es.length : Int) := by omega
    have E : Hid (snd es n = 5) := by unfold Hid snd; rw [if_pos hc]
    go_enter Tryz.func26, Tryz.ntmps26
    go_wp2
    go_ret
    exact ⟨ri E.out.symm, Below.refl _ _⟩
  · have hc' : (es.length : Int) ≤ 512 := by omega
    have E : Hid (snd es n = sndGo n (prv es 0) (es.drop 0)) := by unfold Hid snd; rw [if_neg hc, prv_zero]; rfl
    clear hc
    go_enter Tryz.func26, Tryz.ntmps26
    go_wp2_with fail
    go_loopw [4, 5, 6, 12, 17, 34, 45] (fun _ _ _ i _ _ _ wr => ∃ k : Nat, k ≤ es.length ∧ i = .int .i64 k ∧ Below w.heap.size w wr ∧ snd es n = sndGo n (prv es k) (es.drop k)) (fun _ _ _ i _ _ _ _ => es.length - (intOf i).toNat)
    case atStart => exact ⟨0, by omega, rfl, Below.refl _ _, E.out⟩
    case round =>
      obtain ⟨k, hk, rfl, hb, hs⟩ := hrel
      have HB := Lib.hid hb
      have HS := Lib.hid hs
      clear hb hs
      by_cases hlt : k < es.length
      · obtain ⟨b, off, rfl, hbl, hcell⟩ := (Hx.out.below HB.out) (by omega)
        have hbw : b < wr.heap.size := Nat.lt_of_lt_of_le hbl HB.out.size
        have HN := Lib.hid (HS.out.trans (sndGo_at n es k hlt))
        have HC := Lib.hid hcell
        obtain ⟨q0, q1, q2⟩ := hcell k hlt
        obtain ⟨y, hy⟩ : ∃ y, y = es[k] := ⟨_, rfl⟩
        rw [← hy] at q0 q1 q2
        have HY := Lib.hid hy
        clear hcell hy
        have HB' := Lib.hid (HB.out.alloc HB.out.size (.cells #[.int .i64 y.f, .int .i64 y.t, .string y.x] 38))
        by_cases g1 : y.f < 0 ∨ y.t < y.f ∨ n < y.t
        · have R : Hid (snd es n = 6) := by unfold Hid; rw [HN.out, ← HY.out, if_pos g1]
          go_wp2_with fail
          all_goals
            go_ret
            exact ⟨ri R.out.symm, HB'.out⟩
        · have G1 := Lib.hid g1
          have h0 : 0 ≤ y.f := by omega
          have h1 : y.f ≤ y.t := by omega
          have h2 : y.t ≤ n := by omega
          clear g1
          by_cases g2 : y.f = y.t ∧ y.x.size = 0
          · have R : Hid (snd es n = 1) := by unfold Hid; rw [HN.out, ← HY.out, if_neg G1.out, if_pos g2]
            have g3 : (y.f == y.t) = true := by simpa using g2.1
            have g4 : y.x.toList.isEmpty = true := by rw [empty_iff]; simpa using g2.2
            clear g2
            go_wp2_with fail
            all_goals
              go_ret
              exact ⟨ri R.out.symm, HB'.out⟩
          · have G2 := Lib.hid g2
            clear g2
            by_cases g3 : y.f = y.t
            case' pos =>
              have g4 : y.x.toList.isEmpty = false := by rw [empty_iff]; exact decide_eq_false (fun h => G2.out ⟨g3, h⟩)
              have g5 : (y.f == y.t) = true := by simpa using g3
              clear g3
            case' neg =>
              have g5 : (y.f == y.t) = false := by simpa using g3
              clear g3
            all_goals
              by_cases hk0 : k = 0
              · have hd0 : decide (0 < k) = false := by simp; omega
                have R : Hid (snd es n = sndGo n (prv es (k + 1)) (es.drop (k + 1))) := by
                  unfold Hid; rw [HN.out, ← HY.out, if_neg G1.out, if_neg G2.out]
                  have : prv es k = none := by rw [hk0, prv_zero]
                  rw [this]; rfl
                clear hk0
                go_wp2_with fail
                go_quiet (fail)
                go_wp2
                go_roundw
                case rel => exact ⟨k + 1, by omega, by go_num, below_drewN HB'.out _, R.out⟩
                case measure => simp [intOf]; omega
              · have hkp : 0 < k := by omega
                obtain ⟨z, hz⟩ : ∃ z, z = es[k - 1].t := ⟨_, rfl⟩
                have q3 := (HC.out (k - 1) (by omega)).2.1
                rw [← hz] at q3
                have HP : Hid (prv es k = some z) := by unfold Hid prv; rw [dif_pos ⟨hkp, by omega⟩, hz]
                have hkp' : (1 : Int) ≤ (k : Int) := by omega
                have hkp2 : (0 : Int) < (k : Int) := by omega
                have hkp3 : (k : Int) - 1 < (es.length : Int) := by omega
                clear hz hk0
                by_cases g6 : y.f ≤ z
                · have R : Hid (snd es n = 7) := by
                    unfold Hid; rw [HN.out, ← HY.out, if_neg G1.out, if_neg G2.out, HP.out, if_pos (by simpa [near] using g6)]
                  go_wp2_with fail
                  go_quiet (fail)
                  go_wp2
                  go_ret
                  exact ⟨ri R.out.symm, below_drewN HB'.out _⟩
                · have R : Hid (snd es n = sndGo n (prv es (k + 1)) (es.drop (k + 1))) := by
                    unfold Hid; rw [HN.out, ← HY.out, if_neg G1.out, if_neg G2.out, HP.out, if_neg (by simpa [near] using g6)]
                  have g6' : decide (y.f ≤ z) = false := by simpa using g6
                  clear g6
                  go_wp2_with fail
                  go_quiet (fail)
                  go_wp2
                  go_roundw
                  case rel => exact ⟨k + 1, by omega, by go_num, below_drewN HB'.out _, R.out⟩
                  case measure => simp [intOf]; omega
      · obtain rfl : k = es.length := by omega
        have R : Hid (snd es n = 0) := by unfold Hid; rw [HS.out, List.drop_length]; unfold sndGo; rfl
        go_wp2
        go_ret
        exact ⟨ri R.out.symm, HB.out⟩
end Go.Proofs.YthbmnnnlkgbieaaGreatDoor
/- The document's own word on whether edits are sound. -/
namespace Go.Proofs.YthbmnnnlkgbieaaGreatDoor
open Go.RowKit

set_option maxHeartbeats 4000000 in
set_option maxRecDepth 100000 in
theorem rsound_edits (A : Option Addr) (cap : Nat) (es : List Ed) (n : Int) (w : World) (hx : Eds w w.heap.size A es) (hl : es.length ≤ 100000) :
    Calls Tryz.prog 25 #[.slice A es.length cap, .int .i64 n] w fun e w' => e = .returned (.int .i64 (snd es n)) ∧ Below w.heap.size w w' := by
  have Hx := Lib.hid hx
  clear hx
  by_cases hc : 512 < es.length
  · have hc' : (512 : Int) < (es.length : Int) := by omega
    have E : Hid (snd es n = 5) := by unfold Hid snd; rw [if_pos hc]
    go_enter Tryz.func25, Tryz.ntmps25
    go_wp2
    go_ret
    exact ⟨ri E.out.symm, Below.refl _ _⟩
  · have hc' : (es.length : Int) ≤ 512 := by omega
    have E : Hid (snd es n = sndGo n (prv es 0) (es.drop 0)) := by unfold Hid snd; rw [if_neg hc, prv_zero]; rfl
    clear hc
    go_enter Tryz.func25, Tryz.ntmps25
    go_wp2_with fail
    go_loopw [4, 5, 6] (fun _ i _ wr => ∃ k : Nat, k ≤ es.length ∧ i = .int .i64 k ∧ Below w.heap.size w wr ∧ snd es n = sndGo n (prv es k) (es.drop k)) (fun _ i _ _ => es.length - (intOf i).toNat)
    case atStart => exact ⟨0, by omega, rfl, Below.refl _ _, E.out⟩
    case round =>
      obtain ⟨k, hk, rfl, hb, hs⟩ := hrel
      have HB := Lib.hid hb
      have HS := Lib.hid hs
      clear hb hs
      by_cases hlt : k < es.length
      · obtain ⟨b, off, rfl, hbl, hcell⟩ := (Hx.out.below HB.out) (by omega)
        have hbw : b < wr.heap.size := Nat.lt_of_lt_of_le hbl HB.out.size
        have HN := Lib.hid (HS.out.trans (sndGo_at n es k hlt))
        have HC := Lib.hid hcell
        obtain ⟨q0, q1, q2⟩ := hcell k hlt
        obtain ⟨y, hy⟩ : ∃ y, y = es[k] := ⟨_, rfl⟩
        rw [← hy] at q0 q1 q2
        have HY := Lib.hid hy
        clear hcell hy
        have HB' := Lib.hid (HB.out.alloc HB.out.size (.cells #[.int .i64 y.f, .int .i64 y.t, .string y.x] 38))
        by_cases g1 : y.f < 0 ∨ y.t < y.f ∨ n < y.t
        · have R : Hid (snd es n = 6) := by unfold Hid; rw [HN.out, ← HY.out, if_pos g1]
          go_wp2_with fail
          all_goals
            go_ret
            exact ⟨ri R.out.symm, HB'.out⟩
        · have G1 := Lib.hid g1
          have h0 : 0 ≤ y.f := by omega
          have h1 : y.f ≤ y.t := by omega
          have h2 : y.t ≤ n := by omega
          clear g1
          by_cases g2 : y.f = y.t ∧ y.x.size = 0
          · have R : Hid (snd es n = 1) := by unfold Hid; rw [HN.out, ← HY.out, if_neg G1.out, if_pos g2]
            have g3 : (y.f == y.t) = true := by simpa using g2.1
            have g4 : (y.x.size == 0) = true := by simpa using g2.2
            clear g2
            go_wp2_with fail
            all_goals
              go_ret
              exact ⟨ri R.out.symm, HB'.out⟩
          · have G2 := Lib.hid g2
            clear g2
            by_cases g3 : y.f = y.t
            case' pos =>
              have g4 : (y.x.size == 0) = false := by rw [beq_eq_false_iff_ne]; exact fun h => G2.out ⟨g3, h⟩
              have g5 : (y.f == y.t) = true := by simpa using g3
              clear g3
            case' neg =>
              have g5 : (y.f == y.t) = false := by simpa using g3
              clear g3
            all_goals
              by_cases hk0 : k = 0
              · have hd0 : decide (0 < k) = false := by simp; omega
                have R : Hid (snd es n = sndGo n (prv es (k + 1)) (es.drop (k + 1))) := by
                  unfold Hid; rw [HN.out, ← HY.out, if_neg G1.out, if_neg G2.out]
                  have : prv es k = none := by rw [hk0, prv_zero]
                  rw [this]; rfl
                clear hk0
                go_wp2_with fail
                go_quiet (fail)
                go_wp2
                go_roundw
                case rel => exact ⟨k + 1, by omega, by go_num, below_drewN HB'.out _, R.out⟩
                case measure => simp [intOf]; omega
              · have hkp : 0 < k := by omega
                obtain ⟨z, hz⟩ : ∃ z, z = es[k - 1].t := ⟨_, rfl⟩
                have q3 := (HC.out (k - 1) (by omega)).2.1
                rw [← hz] at q3
                have HP : Hid (prv es k = some z) := by unfold Hid prv; rw [dif_pos ⟨hkp, by omega⟩, hz]
                have hkp' : (1 : Int) ≤ (k : Int) := by omega
                have hkp2 : (0 : Int) < (k : Int) := by omega
                have hkp3 : (k : Int) - 1 < (es.length : Int) := by omega
                clear hz hk0
                by_cases g6 : y.f ≤ z
                · have R : Hid (snd es n = 7) := by
                    unfold Hid; rw [HN.out, ← HY.out, if_neg G1.out, if_neg G2.out, HP.out, if_pos (by simpa [near] using g6)]
                  go_wp2_with fail
                  go_quiet (fail)
                  go_wp2
                  go_ret
                  exact ⟨ri R.out.symm, below_drewN HB'.out _⟩
                · have R : Hid (snd es n = sndGo n (prv es (k + 1)) (es.drop (k + 1))) := by
                    unfold Hid; rw [HN.out, ← HY.out, if_neg G1.out, if_neg G2.out, HP.out, if_neg (by simpa [near] using g6)]
                  have g6' : decide (y.f ≤ z) = false := by simpa using g6
                  clear g6
                  go_wp2_with fail
                  go_quiet (fail)
                  go_wp2
                  go_roundw
                  case rel => exact ⟨k + 1, by omega, by go_num, below_drewN HB'.out _, R.out⟩
                  case measure => simp [intOf]; omega
      · obtain rfl : k = es.length := by omega
        have R : Hid (snd es n = 0) := by unfold Hid; rw [HS.out, List.drop_length]; unfold sndGo; rfl
        go_wp2
        go_ret
        exact ⟨ri R.out.symm, HB.out⟩
end Go.Proofs.YthbmnnnlkgbieaaGreatDoor
/- The pieces of a text behind edits, laid by a function value. -/
namespace Go.Proofs.YthbmnnnlkgbieaaGreatDoor
open Go.RowKit

/-- A piece: bytes that are left, or a text that is put in. -/
structure Pc where
  f : Int
  t : Int
  x : ByteArray
abbrev pv (p : Pc) : Value := .agg #[.int .i64 p.f, .int .i64 p.t, .string p.x]
def lv (a b : Int) : List Pc := if a < b then [⟨a, b, ⟨#[]⟩⟩] else []
def tx_ (x : ByteArray) : List Pc := if x.size = 0 then [] else [⟨0, 0, x⟩]
def pcs (n : Int) : Int → List Ed → List Pc
  | a, [] => lv a n
  | a, e :: r => lv a e.f ++ tx_ e.x ++ pcs n e.t r

/-- A world in which the function value f lies in block fb, the number a in block ab. -/
def Walks (fb ab : Nat) (fv : Value) (a : Int) (w : World) : Prop := RowB w fb 74 #[fv] ∧ RowB w ab 3 #[.int .i64 a]

/-- Who lays: a function value whose calls put one piece more, and turn nothing but what is theirs: block v, and rows of type e. -/
structure Lays (F : Nat) (caps : List Value) (B v e : Nat) (I : List Pc → World → Prop) (G : Pc → List Pc → Prop) : Prop where
  call : ∀ ps p w, I ps w → G p ps → B ≤ w.heap.size → Calls Tryz.prog F (pv p :: caps).toArray w fun en w' => en = .returned (.tuple #[]) ∧ I (ps ++ [p]) w' ∧ Below B w w' ∧ Lib.OthersKept e (some v) w w'
  keep : ∀ ps w w', I ps w → w.heap.size ≤ w'.heap.size → Lib.OthersKept 3 none w w' → I ps w'

theorem Lib_kept_alloc (w : World) (e : Nat) (v : Option Nat) (o : Obj) : Lib.OthersKept e v w (w.alloc o) := fun k o' hk _ _ => by
  have hlt : k < w.heap.size := by
    rcases Nat.lt_or_ge k w.heap.size with h | h
    · exact h
    · rw [Array.getElem?_eq_none h] at hk; cases hk
  rw [Below.heap_alloc w o k hlt]; exact hk
theorem kept_set3 {w : World} {b : Nat} {x : Value} (h : RowB w b 3 #[x]) (j : Nat) (v : Value) : Lib.OthersKept 3 none w (w.setCell ⟨b, j, none⟩ v) := fun k o hk _ ho => by
  rw [Below.heap_setCell w ⟨b, j, none⟩ v k (fun e => ?_)]
  · exact hk
  · simp only at e
    subst e
    unfold RowB at h
    rw [hk] at h
    injection h with h
    exact ho _ _ h
theorem RowB.others {w w' : World} {g t e : Nat} {v : Nat} {cs : Array Value} (h : RowB w g t cs) (ho : Lib.OthersKept e (some v) w w') (hv : g ≠ v) (ht : t ≠ e) : RowB w' g t cs :=
  ho g _ h (fun hh => hv (by injection hh)) (fun c fz hh => ht (by injection hh))

set_option maxHeartbeats 1000000 in
set_option maxRecDepth 100000 in
/-- 'leave': what stands from the place on, up to another one, is laid as one piece. -/
theorem leave46 (c1 c2 : Value) (B v e fb ab : Nat) (I : List Pc → World → Prop) (G : Pc → List Pc → Prop) (L : Lays 28 [c1, c2] B v e I G) (he : e ≠ 3 ∧ e ≠ 74) (ps : List Pc) (a n : Int) (w : World)
    (hw : Walks fb ab (.func (.func 28) #[] #[c1, c2]) a w) (hI : I ps w) (hB : B ≤ w.heap.size) (hfv : fb ≠ v) (hav : ab ≠ v) (hG : a < n → G ⟨a, n, ⟨#[]⟩⟩ ps) :
    Calls Tryz.prog 47 #[.int .i64 n, .pointer (some ⟨ab, 0, none⟩), .pointer (some ⟨fb, 0, none⟩)] w fun en w' => en = .returned (.tuple #[]) ∧ I (ps ++ lv a n) w' ∧ Walks fb ab (.func (.func 28) #[] #[c1, c2]) a w' ∧ Below B w w' ∧ Lib.OthersKept e (some v) w w' := by
  have q0 : w.cell? ⟨ab, 0, none⟩ = some (.int .i64 a) := hw.2.cell 0
  have q1 : w.cell? ⟨fb, 0, none⟩ = some (.func (.func 28) #[] #[c1, c2]) := hw.1.cell 0
  have HW := Lib.hid hw
  have HI := Lib.hid hI
  have HL := Lib.hid L
  have HG := Lib.hid hG
  clear hw hI hG
  by_cases hlt : a < n
  · have E : Hid (lv a n = [⟨a, n, ⟨#[]⟩⟩]) := by unfold Hid lv; rw [if_pos hlt]
    go_enter Tryz.func47, Tryz.ntmps47
    go_wp2_with fail
    refine (HL.out.call ps ⟨a, n, ⟨#[]⟩⟩ _ HI.out (HG.out hlt) hB).mono ?_
    rintro en w1 ⟨rfl, h1, h2, h3⟩
    have R1 : Hid (I (ps ++ lv a n) w1) := by unfold Hid; rw [E.out]; exact h1
    have R2 : Hid (Walks fb ab (.func (.func 28) #[] #[c1, c2]) a w1) := ⟨HW.out.1.others h3 hfv (Ne.symm he.2), HW.out.2.others h3 hav (Ne.symm he.1)⟩
    have R3 := Lib.hid h2
    have R4 := Lib.hid h3
    clear h1 h2 h3 q0 q1
    go_wp2
    go_end0
    exact ⟨rfl, R1.out, R2.out, R3.out, R4.out⟩
  · have E : Hid (lv a n = []) := by unfold Hid lv; rw [if_neg hlt]
    go_enter Tryz.func47, Tryz.ntmps47
    go_wp2_with fail
    go_end0
    exact ⟨rfl, by rw [E.out, List.append_nil]; exact HI.out, HW.out, Below.refl _ _, Lib.OthersKept.refl _ _ _⟩

/-- Where the edit ahead of place k ended; at the beginning 0. -/
def enda (es : List Ed) (k : Nat) : Int := if h : 0 < k ∧ k - 1 < es.length then (es[k - 1]'h.2).t else 0
theorem enda_succ (es : List Ed) (k : Nat) (hk : k < es.length) : enda es (k + 1) = es[k].t := by
  unfold enda
  rw [dif_pos ⟨by omega, by simpa using hk⟩]
  simp
theorem enda_zero (es : List Ed) : enda es 0 = 0 := by unfold enda; rw [dif_neg (by omega)]
theorem pcs_at (n a : Int) (es : List Ed) (k : Nat) (hk : k < es.length) : pcs n a (es.drop k) = lv a es[k].f ++ tx_ es[k].x ++ pcs n (enda es (k + 1)) (es.drop (k + 1)) := by
  rw [List.drop_eq_getElem_cons hk, pcs, enda_succ es k hk]
theorem pcs_end (n a : Int) (es : List Ed) : pcs n a (es.drop es.length) = lv a n := by
  rw [List.drop_length, pcs]

/-- What stands when the walk has ended. -/
def Walked (B : Nat) (I : List Pc → World → Prop) (all : List Pc) (w : World) (en : Ending) (w' : World) : Prop := en = .returned (.tuple #[]) ∧ I all w' ∧ Below B w w'

set_option maxHeartbeats 4000000 in
set_option maxRecDepth 100000 in
theorem walk46 (c1 c2 : Value) (B v e : Nat) (I : List Pc → World → Prop) (G : Pc → List Pc → Prop) (L : Lays 28 [c1, c2] B v e I G) (he : e ≠ 3 ∧ e ≠ 74) (he2 : e ≠ 38) (A : Option Addr) (cap : Nat) (es : List Ed) (n : Int) (ps0 : List Pc) (w : World)
    (hes : Eds w B A es) (hI : I ps0 w) (hB : B ≤ w.heap.size) (hv : v < w.heap.size) (hl : es.length ≤ 100000)
    (hG : ∀ done p rest, done ++ [p] ++ rest = ps0 ++ pcs n 0 es → G p done) :
    Calls Tryz.prog 27 #[.slice A es.length cap, .int .i64 n, .func (.func 28) #[] #[c1, c2]] w (Walked B I (ps0 ++ pcs n 0 es) w) := by
  have hmf : ∀ (fn : Fn) (first cap : Array Value) (w : World), (Instr.makeFunc fn first cap).run Tryz.prog w = .ok (.func fn first cap) w := fun _ _ _ _ => rfl
  have HES := Lib.hid hes
  have HI := Lib.hid hI
  have HL := Lib.hid L
  have HG := Lib.hid hG
  clear hes hI hG
  have W1 : Hid (Walks w.heap.size (w.heap.size + 1) (.func (.func 28) #[] #[c1, c2]) 0 ((w.alloc (.cells #[.func (.func 28) #[] #[c1, c2]] 74)).alloc (.cells #[.int .i64 0] 3))) :=
    ⟨(RowB.new w 74 _).alloc _, by have := RowB.new (w.alloc (.cells #[.func (.func 28) #[] #[c1, c2]] 74)) 3 #[.int .i64 0]; simpa using this⟩
  have I1 : Hid (I ps0 ((w.alloc (.cells #[.func (.func 28) #[] #[c1, c2]] 74)).alloc (.cells #[.int .i64 0] 3))) :=
    HL.out.keep _ _ _ HI.out (by simp; omega) ((Lib_kept_alloc _ _ _ _).trans (Lib_kept_alloc _ _ _ _))
  have B1 : Hid (Below B w ((w.alloc (.cells #[.func (.func 28) #[] #[c1, c2]] 74)).alloc (.cells #[.int .i64 0] 3))) := ((Below.refl _ _).alloc hB _).alloc (by simp; omega) _
  go_enter Tryz.func27, Tryz.ntmps27
  go_wp2_with fail
  clear hmf
  go_loopw [9, 13] (fun _ i wr => ∃ (k : Nat) (done : List Pc), k ≤ es.length ∧ i = .int .i64 k ∧ I done wr ∧ done ++ pcs n (enda es k) (es.drop k) = ps0 ++ pcs n 0 es ∧ Walks w.heap.size (w.heap.size + 1) (.func (.func 28) #[] #[c1, c2]) (enda es k) wr ∧ Below B w wr) (fun _ i _ => es.length - (intOf i).toNat)
  case atStart => exact ⟨0, ps0, by omega, rfl, I1.out, by rw [enda_zero]; rfl, by rw [enda_zero]; exact W1.out, B1.out⟩
  case round =>
    obtain ⟨k, done, hk, rfl, hi, hd, hw, hb⟩ := hrel
    have HI := Lib.hid hi
    have HD := Lib.hid hd
    have HW := Lib.hid hw
    have HB := Lib.hid hb
    have hBr : B ≤ wr.heap.size := Nat.le_trans hB hb.size
    clear hi hd hw hb
    by_cases hlt : k < es.length
    · obtain ⟨bb, off, rfl, hbl, hcell⟩ := (HES.out.below HB.out) (by omega)
      obtain ⟨q0, q1, q2⟩ := hcell k hlt
      have HP := Lib.hid (pcs_at n (enda es k) es k hlt)
      obtain ⟨y, hy⟩ : ∃ y, y = es[k] := ⟨_, rfl⟩
      rw [← hy] at q0 q1 q2
      have HY := Lib.hid hy
      clear hcell hy
      have hbb : bb < wr.heap.size := by omega
      have hEq : done ++ (lv (enda es k) y.f ++ tx_ y.x ++ pcs n (enda es (k + 1)) (es.drop (k + 1))) = ps0 ++ pcs n 0 es := by rw [HY.out, ← HP.out]; exact HD.out
      have HQ := Lib.hid hEq
      clear hEq
      go_wp2_with fail
      refine (leave46 c1 c2 B v e w.heap.size (w.heap.size + 1) I G HL.out he done (enda es k) y.f _ ⟨HW.out.1.alloc _, HW.out.2.alloc _⟩ (HL.out.keep _ _ _ HI.out (by simp) (Lib_kept_alloc _ _ _ _)) (by simp; omega) (by omega) (by omega)
        (fun h => HG.out done _ (tx_ y.x ++ pcs n (enda es (k + 1)) (es.drop (k + 1))) (by rw [← HQ.out]; simp [lv, h]))).mono ?_
      rintro en w2 ⟨rfl, hi2, hw2, hb2, ho2⟩
      have HE2 := Lib.hid ((RowB.new wr 38 #[.int .i64 y.f, .int .i64 y.t, .string y.x]).others ho2 (by have := HB.out.size; omega) (Ne.symm he2))
      have HI2 := Lib.hid hi2
      have HW2 := Lib.hid hw2
      have HB2 := Lib.hid ((HB.out.alloc hBr (.cells #[.int .i64 y.f, .int .i64 y.t, .string y.x] 38)).trans hb2)
      have hBr2 : B ≤ w2.heap.size := Nat.le_trans hB HB2.out.size
      clear hi2 hw2 hb2 ho2 q0 q1 q2
      have p0 : w2.cell? ⟨wr.heap.size, 0, none⟩ = some (.int .i64 y.f) := HE2.out.cell 0
      have p1 : w2.cell? ⟨wr.heap.size, 1, none⟩ = some (.int .i64 y.t) := HE2.out.cell 1
      have p2 : w2.cell? ⟨wr.heap.size, 2, none⟩ = some (.string y.x) := HE2.out.cell 2
      have p3 : w2.cell? ⟨w.heap.size, 0, none⟩ = some (.func (.func 28) #[] #[c1, c2]) := HW2.out.1.cell 0
      have p4 : w2.cell? ⟨w.heap.size + 1, 0, none⟩ = some (.int .i64 (enda es k)) := HW2.out.2.cell 0
      have p5 : w2.frozen? ⟨w.heap.size + 1, 0, none⟩ = false := HW2.out.2.thaw 0
      by_cases hz : y.x.size = 0
      · have g4 : y.x.toList.isEmpty = true := by rw [empty_iff]; simpa using hz
        have HT : Hid (tx_ y.x = []) := by unfold Hid tx_; rw [if_pos hz]
        clear hz
        have I3 : Hid (I (done ++ lv (enda es k) y.f ++ tx_ y.x) (w2.setCell ⟨w.heap.size + 1, 0, none⟩ (.int .i64 y.t))) := by
          unfold Hid; rw [HT.out, List.append_nil]; exact HL.out.keep _ _ _ HI2.out (by simp [World.setCell]) (kept_set3 HW2.out.2 _ _)
        have W3 : Hid (Walks w.heap.size (w.heap.size + 1) (.func (.func 28) #[] #[c1, c2]) y.t (w2.setCell ⟨w.heap.size + 1, 0, none⟩ (.int .i64 y.t))) :=
          ⟨HW2.out.1.far (by simp) _, HW2.out.2.put 0 _⟩
        have B3 := Lib.hid (HB2.out.setCell (p := ⟨w.heap.size + 1, 0, none⟩) (show B ≤ w.heap.size + 1 by omega) (.int .i64 y.t))
        go_wp2_with fail
        go_roundw
        case rel => exact ⟨k + 1, done ++ lv (enda es k) y.f ++ tx_ y.x, by omega, by go_num, I3.out, by rw [← HQ.out]; simp [List.append_assoc], by rw [enda_succ es k hlt, ← HY.out]; exact W3.out, B3.out⟩
        case measure => simp [intOf]; omega
      · have g4 : y.x.toList.isEmpty = false := by rw [empty_iff]; simpa using hz
        have HT : Hid (tx_ y.x = [⟨0, 0, y.x⟩]) := by unfold Hid tx_; rw [if_neg hz]
        clear hz
        go_wp2_with fail
        refine (HL.out.call (done ++ lv (enda es k) y.f) ⟨0, 0, y.x⟩ _ HI2.out (HG.out _ _ (pcs n (enda es (k + 1)) (es.drop (k + 1))) (by rw [← HQ.out, HT.out]; simp [List.append_assoc])) hBr2).mono ?_
        rintro en w3 ⟨rfl, hi3, hb3, ho3⟩
        have HE3 := Lib.hid (HE2.out.others ho3 (by have := HB.out.size; omega) (Ne.symm he2))
        have HW3 : Hid (Walks w.heap.size (w.heap.size + 1) (.func (.func 28) #[] #[c1, c2]) (enda es k) w3) := ⟨HW2.out.1.others ho3 (by omega) (Ne.symm he.2), HW2.out.2.others ho3 (by omega) (Ne.symm he.1)⟩
        have HI3 := Lib.hid hi3
        have HB3 := Lib.hid (HB2.out.trans hb3)
        clear hi3 hb3 ho3 p0 p1 p2 p3 p4 p5
        have r1 : w3.cell? ⟨wr.heap.size, 1, none⟩ = some (.int .i64 y.t) := HE3.out.cell 1
        have r4 : w3.cell? ⟨w.heap.size + 1, 0, none⟩ = some (.int .i64 (enda es k)) := HW3.out.2.cell 0
        have r5 : w3.frozen? ⟨w.heap.size + 1, 0, none⟩ = false := HW3.out.2.thaw 0
        have I4 : Hid (I (done ++ lv (enda es k) y.f ++ tx_ y.x) (w3.setCell ⟨w.heap.size + 1, 0, none⟩ (.int .i64 y.t))) := by
          unfold Hid; rw [HT.out]; exact HL.out.keep _ _ _ HI3.out (by simp [World.setCell]) (kept_set3 HW3.out.2 _ _)
        have W4 : Hid (Walks w.heap.size (w.heap.size + 1) (.func (.func 28) #[] #[c1, c2]) y.t (w3.setCell ⟨w.heap.size + 1, 0, none⟩ (.int .i64 y.t))) :=
          ⟨HW3.out.1.far (by simp) _, HW3.out.2.put 0 _⟩
        have B4 := Lib.hid (HB3.out.setCell (p := ⟨w.heap.size + 1, 0, none⟩) (show B ≤ w.heap.size + 1 by omega) (.int .i64 y.t))
        go_wp2_with fail
        go_roundw
        case rel => exact ⟨k + 1, done ++ lv (enda es k) y.f ++ tx_ y.x, by omega, by go_num, I4.out, by rw [← HQ.out]; simp [List.append_assoc], by rw [enda_succ es k hlt, ← HY.out]; exact W4.out, B4.out⟩
        case measure => simp [intOf]; omega
    · obtain rfl : k = es.length := by omega
      have hEq : done ++ lv (enda es es.length) n = ps0 ++ pcs n 0 es := by rw [← pcs_end n _ es]; exact HD.out
      have HQ := Lib.hid hEq
      clear hEq
      go_wp2_with fail
      refine (leave46 c1 c2 B v e w.heap.size (w.heap.size + 1) I G HL.out he done (enda es es.length) n _ HW.out HI.out hBr (by omega) (by omega)
        (fun h => HG.out done _ [] (by rw [← HQ.out]; simp [lv, h]))).mono ?_
      rintro en w2 ⟨rfl, hi2, hw2, hb2, ho2⟩
      have HI2 := Lib.hid hi2
      have HB2 := Lib.hid (HB.out.trans hb2)
      clear hi2 hw2 hb2 ho2
      go_wp2
      go_end0
      exact ⟨rfl, by rw [← HQ.out]; exact HI2.out, HB2.out⟩
end Go.Proofs.YthbmnnnlkgbieaaGreatDoor
/- The text behind edits: what edit.Apply answers. -/
namespace Go.Proofs.YthbmnnnlkgbieaaGreatDoor
open Go.RowKit

/-- A piece's bytes. -/
def pb (s : ByteArray) (p : Pc) : List UInt8 := if p.x.size = 0 then (s.data.toList.drop p.f.toNat).take (p.t.toNat - p.f.toNat) else p.x.data.toList
def pbs (s : ByteArray) : List Pc → List UInt8
  | [] => []
  | p :: r => pb s p ++ pbs s r
theorem pbs_append (s : ByteArray) (a b : List Pc) : pbs s (a ++ b) = pbs s a ++ pbs s b := by
  induction a with
  | nil => rfl
  | cons p r ih => simp [pbs, ih, List.append_assoc]

def AI (s : ByteArray) (B b sb : Nat) (ps : List Pc) (w : World) : Prop := Lib.IsBuilder 66 5 B b (Lib.byteCells (pbs s ps)) w ∧ RowB w sb 9 #[.string s]
def AG (s : ByteArray) (p : Pc) (ps : List Pc) : Prop := (p.x.size = 0 → 0 ≤ p.f ∧ p.f ≤ p.t ∧ p.t ≤ s.size) ∧ (pbs s ps).length + (pb s p).length ≤ 140737488355328

theorem own_kept {w w' : World} {base e n : Nat} {v : Value} {xs : List Value} (h : w.ownsRow base e 1 v n xs) (_hs : w.heap.size ≤ w'.heap.size) (ho : Lib.OthersKept 3 none w w') (he : e ≠ 3) : w'.ownsRow base e 1 v n xs := by
  refine ⟨h.1, ?_⟩
  rcases h.2 with hx | ⟨g, cap, cur, hv, hb, hh, r⟩
  · exact .inl hx
  · exact .inr ⟨g, cap, cur, hv, hb, ho g _ hh (by simp) (fun c fz hc => he (by injection hc)), r⟩
theorem builder_kept {w w' : World} {B b : Nat} {bs : List Value} (h : Lib.IsBuilder 66 5 B b bs w) (hs : w.heap.size ≤ w'.heap.size) (ho : Lib.OthersKept 3 none w w') : Lib.IsBuilder 66 5 B b bs w' := by
  rcases h with ⟨h1, v, h2, h3, h4⟩ | ⟨h1, v, h2, h3, h4⟩
  · exact .inl ⟨h1, v, ho b _ h2 (by simp) (fun c fz hc => by injection hc with _ hc; exact absurd hc (by decide)), own_kept h3 hs ho (by decide), h4⟩
  · exact .inr ⟨h1, v, ho b _ h2 (by simp) (fun c fz hc => by injection hc with _ hc; exact absurd hc (by decide)), own_kept h3 hs ho (by decide), h4⟩

set_option maxHeartbeats 1000000 in
theorem isPut_any (p : Pc) (w : World) : Calls Tryz.prog 29 #[pv p] w fun e w' => e = .returned (.bool (!decide (p.x.size = 0))) ∧ Below w.heap.size w w' := by
  have HE := Lib.hid (empty_iff p.x)
  go_enter Tryz.func29, Tryz.ntmps29
  go_wp2
  go_ret
  exact ⟨rb (by rw [← HE.out]), (Below.refl _ _).alloc (Nat.le_refl _) _⟩

theorem kept_below {w w' : World} (h : Below w.heap.size w w') (e : Nat) (v : Option Nat) : Lib.OthersKept e v w w' := fun k o hk _ _ => by
  have hlt : k < w.heap.size := by
    rcases Nat.lt_or_ge k w.heap.size with h | h
    · exact h
    · rw [Array.getElem?_eq_none h] at hk; cases hk
  rw [h.block k hlt]; exact hk
theorem AI_kept {s : ByteArray} {B b sb : Nat} {ps : List Pc} {w w' : World} (h : AI s B b sb ps w) (hs : w.heap.size ≤ w'.heap.size) (ho : Lib.OthersKept 3 none w w') : AI s B b sb ps w' :=
  ⟨builder_kept h.1 hs ho, ho sb _ h.2 (by simp) (fun c fz hc => by injection hc with _ hc; exact absurd hc (by decide))⟩

set_option maxHeartbeats 2000000 in
theorem lay46 (s : ByteArray) (B b sb : Nat) (ps : List Pc) (p : Pc) (w : World) (hI : AI s B b sb ps w) (hG : AG s p ps) (hB : B ≤ w.heap.size) (hbs : sb ≠ b) :
    Calls Tryz.prog 28 #[pv p, .pointer (some ⟨b, 0, none⟩), .pointer (some ⟨sb, 0, none⟩)] w fun en w' => en = .returned (.tuple #[]) ∧ AI s B b sb (ps ++ [p]) w' ∧ Below B w w' ∧ Lib.OthersKept 5 (some b) w w' := by
  have HI := Lib.hid hI
  have HG := Lib.hid hG
  clear hI hG
  go_enter Tryz.func28, Tryz.ntmps28
  go_wp2_with fail
  refine (isPut_any p _).mono ?_
  rintro e w1 ⟨rfl, hb⟩
  have hb0 : Below w.heap.size w w1 := ((Below.refl _ _).alloc (Nat.le_refl _) _).trans (hb.mono (by simp))
  have HI1 := Lib.hid (AI_kept HI.out hb0.size (kept_below hb0 _ _))
  have HK1 := Lib.hid (kept_below hb0 5 (some b))
  have HB1 := Lib.hid (hb0.mono hB)
  have HP1 := Lib.hid ((RowB.new w 69 #[.int .i64 p.f, .int .i64 p.t, .string p.x]).below hb (by simp))
  have hB1 : B ≤ w1.heap.size := Nat.le_trans hB hb0.size
  have p0 : w1.cell? ⟨w.heap.size, 0, none⟩ = some (.int .i64 p.f) := HP1.out.cell 0
  have p1 : w1.cell? ⟨w.heap.size, 1, none⟩ = some (.int .i64 p.t) := HP1.out.cell 1
  have p2 : w1.cell? ⟨w.heap.size, 2, none⟩ = some (.string p.x) := HP1.out.cell 2
  have p3 : w1.cell? ⟨sb, 0, none⟩ = some (.string s) := HI1.out.2.cell 0
  clear hb hb0
  by_cases hz : p.x.size = 0
  · have HZ := Lib.hid hz
    rw [show (!decide (p.x.size = 0)) = false by simp [hz]]
    obtain ⟨g0, g1, g2⟩ := HG.out.1 hz
    have E : Hid (pb s p = (s.extract p.f.toNat p.t.toNat).data.toList) := by
      unfold Hid pb
      rw [if_pos hz, ByteArray.data_extract, Array.toList_extract, List.extract_eq_take_drop]
    have HL : Hid ((Lib.byteCells (pbs s ps)).length + (s.extract p.f.toNat p.t.toNat).size ≤ 140737488355328) := by
      unfold Hid
      have := HG.out.2
      rw [E.out] at this
      rw [Lib.byteCells_length]
      exact this
    clear hz
    go_wp2_with fail
    refine (write_any B b (Lib.byteCells (pbs s ps)) _ _ HI1.out.1 HL.out hB1).mono ?_
    rintro e w2 ⟨rfl, h1, h2, h3⟩
    have R1 : Hid (AI s B b sb (ps ++ [p]) w2) := by
      refine ⟨?_, HI1.out.2.others h3 hbs (by decide)⟩
      rw [pbs_append]
      have : pbs s [p] = (s.extract p.f.toNat p.t.toNat).data.toList := by simp [pbs, E.out]
      rw [this]
      unfold Lib.byteCells
      rw [List.map_append]
      exact h1
    have R2 := Lib.hid (HB1.out.trans h2)
    have R3 := Lib.hid (HK1.out.trans h3)
    clear h1 h2 h3 p0 p1 p2 p3
    go_wp2
    go_end0
    exact ⟨rfl, R1.out, R2.out, R3.out⟩
  · have HZ := Lib.hid hz
    rw [show (!decide (p.x.size = 0)) = true by simp [hz]]
    have E : Hid (pb s p = p.x.data.toList) := by unfold Hid pb; rw [if_neg hz]
    have HL : Hid ((Lib.byteCells (pbs s ps)).length + p.x.size ≤ 140737488355328) := by
      unfold Hid
      have := HG.out.2
      rw [E.out] at this
      rw [Lib.byteCells_length]
      exact this
    clear hz
    go_wp2_with fail
    refine (write_any B b (Lib.byteCells (pbs s ps)) _ _ HI1.out.1 HL.out hB1).mono ?_
    rintro e w2 ⟨rfl, h1, h2, h3⟩
    have R1 : Hid (AI s B b sb (ps ++ [p]) w2) := by
      refine ⟨?_, HI1.out.2.others h3 hbs (by decide)⟩
      rw [pbs_append]
      have : pbs s [p] = p.x.data.toList := by simp [pbs, E.out]
      rw [this]
      unfold Lib.byteCells
      rw [List.map_append]
      exact h1
    have R2 := Lib.hid (HB1.out.trans h2)
    have R3 := Lib.hid (HK1.out.trans h3)
    clear h1 h2 h3 p0 p1 p2 p3
    go_wp2
    go_end0
    exact ⟨rfl, R1.out, R2.out, R3.out⟩

theorem lays46 (s : ByteArray) (B b sb : Nat) (hbs : sb ≠ b) : Lays 28 [.pointer (some ⟨b, 0, none⟩), .pointer (some ⟨sb, 0, none⟩)] B b 5 (AI s B b sb) (AG s) where
  call := fun ps p w hI hG hB => lay46 s B b sb ps p w hI hG hB hbs
  keep := fun _ps _w _w' h hs ho => AI_kept h hs ho

theorem below_alloc' {w w' : World} {o : Obj} (h : Below (w.alloc o).heap.size (w.alloc o) w') : Below w.heap.size w w' :=
  ((Below.refl _ _).alloc (Nat.le_refl _) o).trans (h.mono (by simp))
theorem near_pos {p : Option Int} {a f : Int} (hp : (p = none ∧ a = 0 ∧ 0 ≤ f) ∨ p = some a) (h : ¬ near p f = true) : a ≤ f := by
  rcases hp with ⟨rfl, rfl, h0⟩ | rfl
  · exact h0
  · simp [near] at h; omega
theorem sndGo_cons {n : Int} {p : Option Int} {e : Ed} {r : List Ed} (h : sndGo n p (e :: r) = 0) :
    0 ≤ e.f ∧ e.f ≤ e.t ∧ e.t ≤ n ∧ ¬ (e.f = e.t ∧ e.x.size = 0) ∧ ¬ near p e.f = true ∧ sndGo n (some e.t) r = 0 := by
  rw [sndGo] at h
  by_cases h1 : e.f < 0 ∨ e.t < e.f ∨ n < e.t
  · rw [if_pos h1] at h; omega
  · rw [if_neg h1] at h
    by_cases h2 : e.f = e.t ∧ e.x.size = 0
    · rw [if_pos h2] at h; omega
    · rw [if_neg h2] at h
      by_cases h3 : near p e.f = true
      · rw [if_pos h3] at h; omega
      · rw [if_neg h3] at h
        exact ⟨by omega, by omega, by omega, h2, h3, h⟩
/-- Every piece of left bytes lies in the text. -/
theorem pcs_in (n : Int) : ∀ (es : List Ed) (p : Option Int) (a : Int), 0 ≤ a → a ≤ n → ((p = none ∧ a = 0) ∨ p = some a) → sndGo n p es = 0 → ∀ q, q ∈ pcs n a es → q.x.size = 0 → 0 ≤ q.f ∧ q.f ≤ q.t ∧ q.t ≤ n
  | [], p, a, h0, h1, _, _, q, hq, _ => by
    unfold pcs lv at hq
    split at hq
    · simp at hq; subst hq; exact ⟨h0, by simp; omega, by simp⟩
    · simp at hq
  | e :: r, p, a, h0, h1, hp, hs, q, hq, hx => by
    obtain ⟨g0, g1, g2, g3, g4, g5⟩ := sndGo_cons hs
    have hae : a ≤ e.f := near_pos (hp.imp (fun h => ⟨h.1, h.2, g0⟩) id) g4
    rw [pcs, List.append_assoc] at hq
    rcases List.mem_append.1 hq with hq | hq
    · unfold lv at hq
      split at hq
      · simp at hq; subst hq; exact ⟨h0, by simp; omega, by simp; omega⟩
      · simp at hq
    · rcases List.mem_append.1 hq with hq | hq
      · unfold tx_ at hq
        split at hq
        · simp at hq
        · rename_i hne
          simp at hq; subst hq; exact absurd hx hne
      · exact pcs_in n r (some e.t) e.t (by omega) g2 (.inr rfl) g5 q hq hx

/-- The text behind edits. -/
def apd (s : ByteArray) (es : List Ed) : List UInt8 := pbs s (pcs s.size 0 es)

theorem ap_good (s : ByteArray) (es : List Ed) (hs : snd es s.size = 0) (hlen : (apd s es).length ≤ 140737488355328) : ∀ done p rest, done ++ [p] ++ rest = [] ++ pcs s.size 0 es → AG s p done := by
  intro done p rest h
  rw [List.nil_append] at h
  have hs' : sndGo s.size none es = 0 := by
    unfold snd at hs
    split at hs
    · omega
    · exact hs
  refine ⟨fun hx => pcs_in s.size es none 0 (by omega) (by omega) (.inl ⟨rfl, rfl⟩) hs' p (by rw [← h]; simp) hx, ?_⟩
  unfold apd at hlen
  rw [← h, pbs_append, pbs_append, List.length_append, List.length_append] at hlen
  have : pbs s [p] = pb s p := by simp [pbs]
  rw [this] at hlen
  omega

set_option maxHeartbeats 2000000 in
theorem apply_no (s : ByteArray) (A : Option Addr) (cap : Nat) (es : List Ed) (w : World) (hes : Eds w w.heap.size A es) (hl : es.length ≤ 100000) (hs : snd es s.size ≠ 0) :
    Calls Tryz.prog 11 #[.string s, .slice A es.length cap] w fun e w' => e = .returned (.tuple #[.string ⟨#[]⟩, .int .i64 (snd es s.size)]) ∧ Below w.heap.size w w' := by
  have hne : (snd es s.size != 0) = true := by simpa using hs
  have HES := Lib.hid hes
  clear hes hs
  go_enter Tryz.func11, Tryz.ntmps11
  go_wp2_with fail
  refine (sound_edits A cap es s.size _ ((HES.out.below ((Below.refl _ _).alloc (Nat.le_refl _) _)).more (by simp)) hl).mono ?_
  rintro e w1 ⟨rfl, hb⟩
  have HB := Lib.hid (below_alloc' hb)
  clear hb
  go_wp2
  go_ret2
  exact ⟨rfl, HB.out⟩

set_option maxHeartbeats 2000000 in
theorem apply_ok (s : ByteArray) (A : Option Addr) (cap : Nat) (es : List Ed) (w : World) (hes : Eds w w.heap.size A es) (hl : es.length ≤ 100000) (hs : snd es s.size = 0) (hlen : (apd s es).length ≤ 140737488355328) :
    Calls Tryz.prog 11 #[.string s, .slice A es.length cap] w fun e w' => e = .returned (.tuple #[.string ⟨(apd s es).toArray⟩, .int .i64 0]) ∧ Below w.heap.size w w' := by
  have hmf : ∀ (fn : Fn) (first cap : Array Value) (w : World), (Instr.makeFunc fn first cap).run Tryz.prog w = .ok (.func fn first cap) w := fun _ _ _ _ => rfl
  have HES := Lib.hid hes
  have HS := Lib.hid hs
  have HG := Lib.hid (ap_good s es hs hlen)
  clear hes hs
  go_enter Tryz.func11, Tryz.ntmps11
  go_wp2_with fail
  refine (sound_edits A cap es s.size _ ((HES.out.below ((Below.refl _ _).alloc (Nat.le_refl _) _)).more (by simp)) hl).mono ?_
  rintro e w1 ⟨rfl, hb⟩
  rw [HS.out]
  have hsz : w.heap.size < w1.heap.size := by have := hb.size; simp at this; omega
  have HR := Lib.hid ((RowB.new w 9 #[.string s]).below hb (by simp))
  have HB := Lib.hid (below_alloc' hb)
  have q0 : w1.cell? ⟨w.heap.size, 0, none⟩ = some (.string s) := HR.out.cell 0
  clear hb
  go_wp2_with fail
  refine (walk46 _ _ w1.heap.size w1.heap.size 5 (AI s w1.heap.size w1.heap.size w.heap.size) (AG s) (lays46 s w1.heap.size w1.heap.size w.heap.size (by omega)) (by decide) (by decide) A cap es s.size [] _
    (((HES.out.below HB.out).more (by omega)).below ((Below.refl _ _).alloc (Nat.le_refl _) _)) ⟨Lib.fresh_isBuilder 66 5 w1, HR.out.alloc _⟩ (by simp) (by simp) hl HG.out).mono ?_
  rintro e w2 ⟨rfl, hi, hb⟩
  have hi0 := hi.1
  rw [List.nil_append] at hi0
  have HI := Lib.hid hi0
  have HB2 := Lib.hid (HB.out.trans (((Below.refl _ w1).alloc (Nat.le_refl _) (.cells #[.pointer none, .slice none 0 0] 66)).trans hb |>.mono (by omega)))
  have hB2 : w1.heap.size ≤ w2.heap.size := by have := hb.size; simp at this; omega
  clear hi hi0 hb q0
  go_wp2_with fail
  refine (sh_Builder_String_any w1.heap.size w1.heap.size (apd s es) _ HI.out hB2).mono ?_
  rintro e w3 ⟨rfl, hb⟩
  have HB3 := Lib.hid (HB2.out.trans (hb.mono (by omega)))
  clear hb
  go_wp2
  go_ret2
  exact ⟨rfl, HB3.out⟩
end Go.Proofs.YthbmnnnlkgbieaaGreatDoor
/- The document's own text behind edits, byte by byte, is the same text. -/
namespace Go.Proofs.YthbmnnnlkgbieaaGreatDoor
open Go.RowKit

/-- What is still to be laid at place k, if these edits are left. -/
def rest_ (s : ByteArray) (k : Nat) : List Ed → List UInt8
  | [] => pbs s (pcs s.size k [])
  | e :: r => if e.f < k then pbs s (pcs s.size e.t r) else pbs s (pcs s.size k (e :: r))
theorem rest_nil (s : ByteArray) (k : Nat) : rest_ s k [] = pbs s (pcs s.size k []) := rfl
theorem rest_cons (s : ByteArray) (k : Nat) (e : Ed) (r : List Ed) : rest_ s k (e :: r) = if e.f < k then pbs s (pcs s.size e.t r) else pbs s (pcs s.size k (e :: r)) := rfl
/-- Edits that are left at place k: sound, and the first one not over. -/
def Left (n : Int) (k : Nat) (L : List Ed) : Prop := (∃ p, sndGo n p L = 0) ∧ ∀ e r, L = e :: r → (k : Int) ≤ e.t
def one (s : ByteArray) (k : Nat) : List UInt8 := (s.data.toList.drop k).take 1

theorem lvb (s : ByteArray) (k m : Int) (h0 : 0 ≤ k) (h : k ≤ m) : pbs s (lv k m) = (s.data.toList.drop k.toNat).take (m.toNat - k.toNat) := by
  unfold lv
  split
  · simp [pbs, pb, ByteArray.size]
  · rw [show m.toNat - k.toNat = 0 by omega]; rfl
theorem lvb_step (s : ByteArray) (k : Nat) (m : Int) (h : (k : Int) < m) : pbs s (lv k m) = one s k ++ pbs s (lv ((k : Int) + 1) m) := by
  rw [lvb s k m (by omega) (by omega), lvb s (k + 1) m (by omega) (by omega)]
  unfold one
  rw [Int.toNat_natCast, show ((k : Int) + 1).toNat = k + 1 by omega, show m.toNat - k = 1 + (m.toNat - (k + 1)) by omega, List.take_add, List.drop_drop]
theorem pcs_step (s : ByteArray) (k : Nat) (L : List Ed) (hk : k < s.size) (hL : ∀ e r, L = e :: r → (k : Int) < e.f) : pbs s (pcs s.size k L) = one s k ++ pbs s (pcs s.size ((k : Int) + 1) L) := by
  cases L with
  | nil => rw [pcs, pcs]; exact lvb_step s k s.size (by omega)
  | cons e r =>
    rw [pcs, pcs, List.append_assoc, List.append_assoc, pbs_append, pbs_append, pbs_append, pbs_append, lvb_step s k e.f (hL e r rfl), List.append_assoc]
theorem rest_step (s : ByteArray) (k : Nat) (L : List Ed) (hL : ∀ e r, L = e :: r → (k : Int) < e.f) : rest_ s (k + 1) L = pbs s (pcs s.size ((k : Int) + 1) L) := by
  cases L with
  | nil => unfold rest_; congr 1
  | cons e r =>
    have := hL e r rfl
    have h2 : ¬ e.f < ((k + 1 : Nat) : Int) := by omega
    show (if e.f < ((k + 1 : Nat) : Int) then _ else _) = _
    rw [if_neg h2]
    congr 1
theorem left_next {n : Int} {k : Nat} {e : Ed} {r : List Ed} (h : Left n k (e :: r)) (ht : e.t = k) : Left n (k + 1) r ∧ ∀ e' r', r = e' :: r' → (k : Int) < e'.f := by
  obtain ⟨⟨p, hp⟩, _⟩ := h
  obtain ⟨_, _, _, _, _, g5⟩ := sndGo_cons hp
  have key : ∀ e' r', r = e' :: r' → (k : Int) < e'.f ∧ e'.f ≤ e'.t := fun e' r' hr => by
    subst hr
    obtain ⟨_, h1, _, _, h4, _⟩ := sndGo_cons g5
    simp [near] at h4
    omega
  exact ⟨⟨⟨_, g5⟩, fun e' r' hr => by have := key e' r' hr; omega⟩, fun e' r' hr => (key e' r' hr).1⟩
theorem left_stay {n : Int} {k : Nat} {e : Ed} {r : List Ed} (h : Left n k (e :: r)) (ht : (k : Int) < e.t) : Left n (k + 1) (e :: r) :=
  ⟨h.1, fun e' r' hr => by injection hr with h1 _; subst h1; omega⟩
theorem end_nil (s : ByteArray) (k : Nat) (h : s.size ≤ k) : pbs s (pcs s.size k []) = [] := by
  rw [pcs]; unfold lv; rw [if_neg (by omega)]; rfl
theorem tx_bytes (s : ByteArray) (x : ByteArray) : pbs s (tx_ x) = x.data.toList := by
  unfold tx_
  split
  · rename_i h
    have : x.data.toList = [] := by rw [← List.length_eq_zero_iff, Array.length_toList]; exact h
    rw [this]; rfl
  · rename_i h
    simp [pbs, pb, h]
theorem pcs_put (s : ByteArray) (k : Nat) (e : Ed) (r : List Ed) (h : e.f = k) : pbs s (pcs s.size k (e :: r)) = e.x.data.toList ++ pbs s (pcs s.size e.t r) := by
  rw [pcs, List.append_assoc, pbs_append, pbs_append, tx_bytes, h]
  have : lv (k : Int) k = [] := by unfold lv; rw [if_neg (by omega)]
  rw [this]; rfl
/-- The byte at place k is laid; those left begin behind it. -/
theorem go_byte {s : ByteArray} {k : Nat} {L : List Ed} {o : List UInt8} {all : List UInt8} (hk : k < s.size) (hL : ∀ e r, L = e :: r → (k : Int) < e.f) (h : o ++ pbs s (pcs s.size k L) = all) :
    (o ++ one s k) ++ rest_ s (k + 1) L = all := by
  rw [rest_step s k L hL, List.append_assoc, ← pcs_step s k L hk hL]; exact h
theorem go_none {s : ByteArray} {k : Nat} {o : List UInt8} {all : List UInt8} (hk : s.size ≤ k) (h : o ++ pbs s (pcs s.size k []) = all) : o ++ rest_ s (k + 1) [] = all := by
  rw [end_nil s k hk] at h
  unfold rest_
  rw [end_nil s (k + 1) (by omega)]; exact h

/-- What the loop holds: what is laid, and what is still to be laid, are the whole. -/
def Laid (s : ByteArray) (es : List Ed) (k j : Nat) (o : ByteArray) : Prop := o.data.toList ++ rest_ s k (es.drop j) = apd s es ∧ Left s.size k (es.drop j)
theorem one_bytes (s : ByteArray) (k : Nat) : (s.extract k (k + 1)).data.toList = one s k := by
  rw [ByteArray.data_extract, Array.toList_extract, List.extract_eq_take_drop, Nat.add_sub_cancel_left]
  rfl
theorem cat_bytes (a b : ByteArray) : (a ++ b).data.toList = a.data.toList ++ b.data.toList := by rw [ByteArray.data_append, Array.toList_append]
theorem laid_size {s : ByteArray} {es : List Ed} {k j : Nat} {o : ByteArray} (h : Laid s es k j o) : o.size ≤ (apd s es).length := by
  rw [← h.1, List.length_append, Array.length_toList]
  exact Nat.le_add_right _ _
theorem drop_end (es : List Ed) (j : Nat) (h : es.length ≤ j) : es.drop j = [] := List.drop_eq_nil_of_le h
theorem drop_at (es : List Ed) (j : Nat) (h : j < es.length) : es.drop j = es[j] :: es.drop (j + 1) := List.drop_eq_getElem_cons h

section
variable {s : ByteArray} {es : List Ed} {k j : Nat} {o : ByteArray}
theorem laid_A (h : Laid s es k j o) (hj : es.length ≤ j) (hk : k < s.size) : Laid s es (k + 1) j (o ++ s.extract k (k + 1)) := by
  unfold Laid at *
  rw [drop_end es j hj] at *
  exact ⟨by rw [cat_bytes, one_bytes]; exact go_byte hk (by simp) h.1, ⟨⟨none, rfl⟩, by simp⟩⟩
theorem laid_A0 (h : Laid s es k j o) (hj : es.length ≤ j) (hk : s.size ≤ k) : Laid s es (k + 1) j o := by
  unfold Laid at *
  rw [drop_end es j hj] at *
  exact ⟨go_none hk h.1, ⟨⟨none, rfl⟩, by simp⟩⟩
theorem laid_B1 (h : Laid s es k j o) (hj : j < es.length) (hf : (k : Int) < es[j].f) : k < s.size ∧ (k : Int) < es[j].t ∧ Laid s es (k + 1) j (o ++ s.extract k (k + 1)) := by
  unfold Laid at *
  rw [drop_at es j hj] at *
  obtain ⟨⟨p, hp⟩, hl⟩ := h.2
  obtain ⟨g0, g1, g2, _⟩ := sndGo_cons hp
  have hks : k < s.size := by omega
  have h1 := h.1
  rw [rest_cons, if_neg (by omega)] at h1
  exact ⟨hks, by omega, by rw [cat_bytes, one_bytes]; exact go_byte hks (fun e r he => by injection he with he _; subst he; exact hf) h1, left_stay h.2 (by omega)⟩
/-- What is left at an edit that ends here. -/
theorem laid_over (h : Laid s es k j o) (hj : j < es.length) (ht : es[j].t = k) : ∃ m : List UInt8, m = (if es[j].f = k then es[j].x.data.toList else []) ∧
    (o.data.toList ++ m) ++ pbs s (pcs s.size k (es.drop (j + 1))) = apd s es ∧ Left s.size (k + 1) (es.drop (j + 1)) ∧ (∀ e r, es.drop (j + 1) = e :: r → (k : Int) < e.f) ∧ es[j].f ≤ k := by
  unfold Laid at h
  rw [drop_at es j hj] at h
  obtain ⟨⟨p, hp⟩, hl⟩ := h.2
  obtain ⟨g0, g1, g2, _⟩ := sndGo_cons hp
  have hn := left_next h.2 ht
  refine ⟨_, rfl, ?_, hn.1, hn.2, by omega⟩
  have h1 := h.1
  rw [rest_cons] at h1
  by_cases hf : es[j].f < k
  · rw [if_pos hf, ht] at h1
    rw [if_neg (by omega), List.append_nil]; exact h1
  · have hfe : es[j].f = k := by omega
    rw [if_neg hf, pcs_put s k _ _ hfe, ht] at h1
    rw [if_pos hfe, List.append_assoc]; exact h1
theorem laid_B2 (h : Laid s es k j o) (hj : j < es.length) (ht : es[j].t = k) (hf : es[j].f = k) (hk : k < s.size) : Laid s es (k + 1) (j + 1) (o ++ es[j].x ++ s.extract k (k + 1)) := by
  obtain ⟨m, hm, h1, h2, h3, _⟩ := laid_over h hj ht
  rw [if_pos hf] at hm
  subst hm
  exact ⟨by rw [cat_bytes, one_bytes, cat_bytes]; exact go_byte hk h3 h1, h2⟩
theorem nil_at_end (hk : s.size ≤ k) (h2 : Left s.size (k + 1) (es.drop (j + 1))) : es.drop (j + 1) = [] := by
  cases hd : es.drop (j + 1) with
  | nil => rfl
  | cons e r =>
    rw [hd] at h2
    obtain ⟨⟨p, hp⟩, hl⟩ := h2
    obtain ⟨g0, g1, g2, _⟩ := sndGo_cons hp
    have := hl e r rfl
    omega
theorem laid_B20 (h : Laid s es k j o) (hj : j < es.length) (ht : es[j].t = k) (hf : es[j].f = k) (hk : s.size ≤ k) : Laid s es (k + 1) (j + 1) (o ++ es[j].x) := by
  obtain ⟨m, hm, h1, h2, h3, _⟩ := laid_over h hj ht
  rw [if_pos hf] at hm
  subst hm
  have hd := nil_at_end hk h2
  unfold Laid
  rw [hd] at h1 h2 ⊢
  exact ⟨by rw [cat_bytes]; exact go_none hk h1, h2⟩
theorem laid_B4 (h : Laid s es k j o) (hj : j < es.length) (ht : es[j].t = k) (hf : es[j].f < k) (hk : k < s.size) : Laid s es (k + 1) (j + 1) (o ++ s.extract k (k + 1)) := by
  obtain ⟨m, hm, h1, h2, h3, _⟩ := laid_over h hj ht
  rw [if_neg (by omega)] at hm
  subst hm
  rw [List.append_nil] at h1
  exact ⟨by rw [cat_bytes, one_bytes]; exact go_byte hk h3 h1, h2⟩
theorem laid_B40 (h : Laid s es k j o) (hj : j < es.length) (ht : es[j].t = k) (hf : es[j].f < k) (hk : s.size ≤ k) : Laid s es (k + 1) (j + 1) o := by
  obtain ⟨m, hm, h1, h2, h3, _⟩ := laid_over h hj ht
  rw [if_neg (by omega)] at hm
  subst hm
  rw [List.append_nil] at h1
  have hd := nil_at_end hk h2
  unfold Laid
  rw [hd] at h1 h2 ⊢
  exact ⟨go_none hk h1, h2⟩
theorem laid_B3 (h : Laid s es k j o) (hj : j < es.length) (ht : (k : Int) < es[j].t) (hf : es[j].f = k) : Laid s es (k + 1) j (o ++ es[j].x) := by
  unfold Laid at *
  rw [drop_at es j hj] at *
  have h1 := h.1
  rw [rest_cons, if_neg (by omega), pcs_put s k _ _ hf] at h1
  rw [rest_cons, if_pos (by omega), cat_bytes, List.append_assoc]
  exact ⟨h1, left_stay h.2 ht⟩
theorem laid_B5 (h : Laid s es k j o) (hj : j < es.length) (ht : (k : Int) < es[j].t) (hf : es[j].f < k) : Laid s es (k + 1) j o := by
  unfold Laid at *
  rw [drop_at es j hj] at *
  have h1 := h.1
  rw [rest_cons, if_pos hf] at h1
  rw [rest_cons, if_pos (by omega)]
  exact ⟨h1, left_stay h.2 ht⟩
end
theorem laid_start (s : ByteArray) (es : List Ed) (hs : snd es s.size = 0) : Laid s es 0 0 ⟨#[]⟩ := by
  have hs' : sndGo s.size none es = 0 := by
    unfold snd at hs
    split at hs
    · omega
    · exact hs
  unfold Laid
  rw [List.drop_zero]
  cases es with
  | nil => exact ⟨rfl, ⟨none, hs'⟩, by simp⟩
  | cons e r =>
    obtain ⟨g0, g1, g2, _⟩ := sndGo_cons hs'
    refine ⟨?_, ⟨none, hs'⟩, fun e' r' h => by injection h with h _; subst h; omega⟩
    rw [rest_cons, if_neg (by omega)]
    rfl
theorem laid_end {s : ByteArray} {es : List Ed} {j : Nat} {o : ByteArray} (h : Laid s es (s.size + 1) j o) : o = ⟨(apd s es).toArray⟩ := by
  have hd : es.drop j = [] := by
    cases hd : es.drop j with
    | nil => rfl
    | cons e r =>
      obtain ⟨⟨p, hp⟩, hl⟩ := h.2
      rw [hd] at hp
      obtain ⟨g0, g1, g2, _⟩ := sndGo_cons hp
      have := hl e r hd
      omega
  have h1 := h.1
  rw [hd] at h1
  rw [rest_nil, end_nil s _ (by omega), List.append_nil] at h1
  rw [← h1]
end Go.Proofs.YthbmnnnlkgbieaaGreatDoor
/- Contracts: what whetstoneref02.Apply answers. -/
namespace Go.Proofs.YthbmnnnlkgbieaaGreatDoor
open Go.RowKit

set_option maxHeartbeats 2000000 in
theorem rapply_no (s : ByteArray) (A : Option Addr) (cap : Nat) (es : List Ed) (w : World) (hes : Eds w w.heap.size A es) (hl : es.length ≤ 100000) (hs : snd es s.size ≠ 0) :
    Calls Tryz.prog 10 #[.string s, .slice A es.length cap] w fun e w' => e = .returned (.tuple #[.string ⟨#[]⟩, .int .i64 (snd es s.size)]) ∧ Below w.heap.size w w' := by
  have hne : (snd es s.size != 0) = true := by simpa using hs
  have HES := Lib.hid hes
  clear hes hs
  go_enter Tryz.func10, Tryz.ntmps10
  go_wp2_with fail
  refine (rsound_edits A cap es s.size _ HES.out hl).mono ?_
  rintro e w1 ⟨rfl, hb⟩
  have HB := Lib.hid hb
  clear hb
  go_wp2
  go_ret2
  exact ⟨rfl, HB.out⟩

set_option maxHeartbeats 8000000 in
set_option maxRecDepth 100000 in
theorem rapply_ok (s : ByteArray) (A : Option Addr) (cap : Nat) (es : List Ed) (w : World) (hes : Eds w w.heap.size A es) (hl : es.length ≤ 100000) (hs : snd es s.size = 0) (hlen : (apd s es).length ≤ 140737488355328) (hss : s.size ≤ 140737488355328) :
    Calls Tryz.prog 10 #[.string s, .slice A es.length cap] w fun e w' => e = .returned (.tuple #[.string ⟨(apd s es).toArray⟩, .int .i64 0]) ∧ Below w.heap.size w w' := by
  have HES := Lib.hid hes
  have HS := Lib.hid hs
  clear hes hs
  go_enter Tryz.func10, Tryz.ntmps10
  go_wp2_with fail
  refine (rsound_edits A cap es s.size _ HES.out hl).mono ?_
  rintro e w1 ⟨rfl, hb⟩
  rw [HS.out]
  have HB := Lib.hid hb
  have HE := Lib.hid (HES.out.below hb)
  clear hb
  go_wp2_with fail
  go_loop [7, 8, 9, 10] (fun o jx i _ => ∃ (k j : Nat) (ob : ByteArray), k ≤ s.size + 1 ∧ j ≤ es.length ∧ i = .int .i64 k ∧ jx = .int .i64 j ∧ o = .string ob ∧ Laid s es k j ob) (fun _ _ i _ => s.size + 1 - (intOf i).toNat)
  case atStart => exact ⟨0, 0, ⟨#[]⟩, by omega, by omega, rfl, rfl, rfl, laid_start s es HS.out⟩
  case round =>
    obtain ⟨k, j, o, hk, hj, rfl, rfl, rfl, hla⟩ := hrel
    have HLA := Lib.hid hla
    have hos : o.size ≤ 140737488355328 := Nat.le_trans (laid_size hla) hlen
    clear hla
    by_cases hlt : k < s.size + 1
    · by_cases hjl : j < es.length
      · obtain ⟨bb, off, rfl, hbl, hcell⟩ := HE.out (by omega)
        obtain ⟨q0, q1, q2⟩ := hcell j hjl
        have HC := Lib.hid hcell
        clear hcell
        rcases Int.lt_trichotomy es[j].f (k : Int) with hf | hf | hf
        · obtain ⟨_, hll⟩ := HLA.out.2
          have hkt := hll _ _ (drop_at es j hjl)
          clear hll
          by_cases ht : es[j].t = k
          · obtain ⟨m, _, _, hlf, hnx, _⟩ := laid_over HLA.out hjl ht
            have g2 : (es[j].t == (k : Int)) = true := by simpa using ht
            have g1 : (es[j].f == (k : Int)) = false := by rw [beq_eq_false_iff_ne]; omega
            by_cases hj1 : j + 1 < es.length
            · obtain ⟨r0, r1, r2⟩ := HC.out (j + 1) hj1
              have hd := drop_at es (j + 1) hj1
              have hf1 := hnx _ _ hd
              rw [hd] at hlf
              obtain ⟨⟨p2, hp2⟩, _⟩ := hlf
              obtain ⟨_, k1, k2, _⟩ := sndGo_cons hp2
              have hks : k < s.size := by omega
              have HN := Lib.hid (laid_B4 HLA.out hjl ht hf hks)
              have g3 : decide (es[j + 1].f ≤ (k : Int)) = false := by simpa using hf1
              clear ht hf hkt hf1 hp2 k1 k2 hd hnx
              go_wp2_with fail
              go_round
              case rel => exact ⟨k + 1, j + 1, _, by omega, by omega, by go_num, by go_num, rfl, HN.out⟩
              case measure => simp [intOf]; omega
            · have hj2 : j + 1 = es.length := by omega
              have hj3 : (es.length : Int) ≤ (j : Int) + 1 := by omega
              by_cases hks : k < s.size
              case' pos => have HN := Lib.hid (laid_B4 HLA.out hjl ht hf hks)
              case' neg => have HN := Lib.hid (laid_B40 HLA.out hjl ht hf (by omega))
              all_goals
                clear ht hf hkt hlf hnx hj2 hj1
                go_wp2_with fail
                go_round
                case rel => exact ⟨k + 1, j + 1, _, by omega, by omega, by go_num, by go_num, rfl, HN.out⟩
                case measure => simp [intOf]; omega
          · have hkt' : (k : Int) < es[j].t := by omega
            have HN := Lib.hid (laid_B5 HLA.out hjl hkt' hf)
            have g2 : (es[j].t == (k : Int)) = false := by rw [beq_eq_false_iff_ne]; exact ht
            have g1 : (es[j].f == (k : Int)) = false := by rw [beq_eq_false_iff_ne]; omega
            have g3 : es[j].f ≤ (k : Int) := by omega
            clear ht hf hkt
            go_wp2_with fail
            all_goals
              go_round
              case rel => exact ⟨k + 1, j, _, by omega, hj, by go_num, rfl, rfl, HN.out⟩
              case measure => simp [intOf]; omega
        · obtain ⟨_, hll⟩ := HLA.out.2
          have hkt := hll _ _ (drop_at es j hjl)
          clear hll
          have g1 : (es[j].f == (k : Int)) = true := by simpa using hf
          by_cases ht : es[j].t = k
          · obtain ⟨m, hm, heq, hlf, hnx, _⟩ := laid_over HLA.out hjl ht
            have hox : o.size + es[j].x.size ≤ 140737488355328 := by
              have := congrArg List.length heq
              rw [hm, if_pos hf] at this
              simp only [List.length_append, Array.length_toList] at this
              have e1 : o.data.size = o.size := rfl
              have e2 : es[j].x.data.size = es[j].x.size := rfl
              omega
            have g2 : (es[j].t == (k : Int)) = true := by simpa using ht
            clear hm heq
            by_cases hj1 : j + 1 < es.length
            · obtain ⟨r0, r1, r2⟩ := HC.out (j + 1) hj1
              have hd := drop_at es (j + 1) hj1
              have hf1 := hnx _ _ hd
              rw [hd] at hlf
              obtain ⟨⟨p2, hp2⟩, _⟩ := hlf
              obtain ⟨_, k1, k2, _⟩ := sndGo_cons hp2
              have hks : k < s.size := by omega
              have HN := Lib.hid (laid_B2 HLA.out hjl ht hf hks)
              have g3 : decide (es[j + 1].f ≤ (k : Int)) = false := by simpa using hf1
              clear ht hf hkt hf1 hp2 k1 k2 hd hnx
              go_wp2_with fail
              go_round
              case rel => exact ⟨k + 1, j + 1, _, by omega, by omega, by go_num, by go_num, rfl, HN.out⟩
              case measure => simp [intOf]; omega
            · have hj2 : j + 1 = es.length := by omega
              have hj3 : (es.length : Int) ≤ (j : Int) + 1 := by omega
              by_cases hks : k < s.size
              case' pos => have HN := Lib.hid (laid_B2 HLA.out hjl ht hf hks)
              case' neg => have HN := Lib.hid (laid_B20 HLA.out hjl ht hf (by omega))
              all_goals
                clear ht hf hkt hlf hnx hj2 hj1
                go_wp2_with fail
                go_round
                case rel => exact ⟨k + 1, j + 1, _, by omega, by omega, by go_num, by go_num, rfl, HN.out⟩
                case measure => simp [intOf]; omega
          · have hkt' : (k : Int) < es[j].t := by omega
            have HN := Lib.hid (laid_B3 HLA.out hjl hkt' hf)
            have hox : o.size + es[j].x.size ≤ 140737488355328 := by
              have := Nat.le_trans (laid_size HN.out) hlen
              rwa [ByteArray.size_append] at this
            have g2 : (es[j].t == (k : Int)) = false := by rw [beq_eq_false_iff_ne]; exact ht
            have g3 : es[j].f ≤ (k : Int) := by omega
            clear ht hf hkt
            go_wp2_with fail
            all_goals
              go_round
              case rel => exact ⟨k + 1, j, _, by omega, hj, by go_num, rfl, rfl, HN.out⟩
              case measure => simp [intOf]; omega
        · obtain ⟨hks, hkt, hn⟩ := laid_B1 HLA.out hjl hf
          have HN := Lib.hid hn
          obtain ⟨y, hy⟩ : ∃ y, y = es[j] := ⟨_, rfl⟩
          rw [← hy] at q0 q1 q2 hf hkt
          have g1 : (y.f == (k : Int)) = false := by rw [beq_eq_false_iff_ne]; omega
          have g2 : (y.t == (k : Int)) = false := by rw [beq_eq_false_iff_ne]; omega
          have g3 : decide (y.f ≤ (k : Int)) = false := by simpa using hf
          clear hn hy hf
          go_wp2_with fail
          go_round
          case rel => exact ⟨k + 1, j, _, by omega, hj, by go_num, rfl, rfl, HN.out⟩
          case measure => simp [intOf]; omega
      · have hjn : es.length ≤ j := by omega
        by_cases hks : k < s.size
        · have HN := Lib.hid (laid_A HLA.out hjn hks)
          go_wp2_with fail
          go_round
          case rel => exact ⟨k + 1, j, _, by omega, hj, by go_num, rfl, rfl, HN.out⟩
          case measure => simp [intOf]; omega
        · have HN := Lib.hid (laid_A0 HLA.out hjn (by omega))
          go_wp2_with fail
          go_round
          case rel => exact ⟨k + 1, j, _, by omega, hj, by go_num, rfl, rfl, HN.out⟩
          case measure => simp [intOf]; omega
    · obtain rfl : k = s.size + 1 := by omega
      have HO := Lib.hid (laid_end HLA.out)
      go_wp2
      go_ret2
      exact ⟨by rw [← HO.out]; rfl, HB.out⟩
end Go.Proofs.YthbmnnnlkgbieaaGreatDoor
