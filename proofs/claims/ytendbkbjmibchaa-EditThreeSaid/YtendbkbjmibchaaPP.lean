/- The contract of edit.pass: the first bytes of pieces are laid; those behind them are left. -/
import Derived.Test.YtendbkbjmibchaaPL
namespace Go.Proofs.Ytendbkbjmibchaa
open Go.RowKit

/-- What stood keeps standing, but the blocks of D; of the old blocks D has won none. -/
def Kept (D D' : Nat → Prop) (w w' : World) : Prop := w.heap.size ≤ w'.heap.size ∧ ∀ k, k < w.heap.size → ¬ D k → w'.heap[k]? = w.heap[k]? ∧ ¬ D' k
theorem Kept.refl (D : Nat → Prop) (w : World) : Kept D D w w := ⟨Nat.le_refl _, fun k _ h => ⟨rfl, h⟩⟩
theorem Kept.trans {D D' D'' : Nat → Prop} {w w' w'' : World} (h : Kept D D' w w') (g : Kept D' D'' w' w'') : Kept D D'' w w'' :=
  ⟨Nat.le_trans h.1 g.1, fun k hk hd => ⟨((g.2 k (Nat.lt_of_lt_of_le hk h.1) (h.2 k hk hd).2).1).trans (h.2 k hk hd).1, (g.2 k (Nat.lt_of_lt_of_le hk h.1) (h.2 k hk hd).2).2⟩⟩
theorem Kept.below {D : Nat → Prop} {w w' : World} (h : Below w.heap.size w w') : Kept D D w w' := ⟨h.size, fun k hk hd => ⟨h.block k hk, hd⟩⟩
theorem row_kept {D D' : Nat → Prop} {w w' : World} {g t : Nat} {cs : Array Value} (h : RowB w g t cs) (hk : Kept D D' w w') (hg : ¬ D g) : RowB w' g t cs := (hk.2 g h.lt hg).1.trans h

/-- Who lays: a function value whose calls put one piece more, and turn nothing but blocks of their own, D. -/
structure LayD (F : Nat) (caps : List Value) (B : Nat) (I : List Pc → (Nat → Prop) → World → Prop) (G : Pc → List Pc → Prop) : Prop where
  call : ∀ ps D p w, I ps D w → G p ps → B ≤ w.heap.size → Calls Try.prog F (pv p :: caps).toArray w fun en w' => en = .returned (.tuple #[]) ∧ ∃ D', I (ps ++ [p]) D' w' ∧ Below B w w' ∧ Kept D D' w w'
  dom : ∀ ps D w k, I ps D w → D k → k < w.heap.size
  enter : ∀ (args : Array Value) (w : World), (callFunc F args).run Try.prog w = .ok (.enter F args) w
  keep : ∀ ps D w w', I ps D w → w.heap.size ≤ w'.heap.size → (∀ k, k < w.heap.size → D k → w'.heap[k]? = w.heap[k]?) → I ps D w'

/-- The address A, in block g, holds these pieces; the block is not frozen. -/
def PcAt (w : World) (g : Nat) (A : Option Addr) (ps : List Pc) : Prop := 0 < ps.length → g < w.heap.size ∧ ∃ off : Nat, A = some ⟨g, off, none⟩ ∧ (∀ i (h : i < ps.length),
    w.cell? ⟨g, off + i * 3, none⟩ = some (.int .i64 ps[i].f) ∧ w.cell? ⟨g, off + i * 3 + 1, none⟩ = some (.int .i64 ps[i].t) ∧ w.cell? ⟨g, off + i * 3 + 2, none⟩ = some (.string ps[i].x)) ∧ ∀ j, w.frozen? ⟨g, j, none⟩ = false
theorem PcAt.same {w w' : World} {g : Nat} {A : Option Addr} {ps : List Pc} (h : PcAt w g A ps) (hs : w.heap.size ≤ w'.heap.size) (hb : g < w.heap.size → w'.heap[g]? = w.heap[g]?) : PcAt w' g A ps := fun hn => by
  obtain ⟨hg, off, e, hc, hf⟩ := h hn
  have hc' : ∀ j, w'.cell? ⟨g, j, none⟩ = w.cell? ⟨g, j, none⟩ := fun j => World.cell?_of_block (w := w) (hb hg)
  refine ⟨by omega, off, e, fun i hi => ?_, fun j => ?_⟩
  · rw [hc', hc', hc']; exact hc i hi
  · have := hf j
    unfold World.frozen? at *
    simp only at *
    rw [hb hg]; exact this
theorem PcAt.tail {w : World} {g off : Nat} {p : Pc} {r : List Pc} (h : PcAt w g (some ⟨g, off, none⟩) (p :: r)) : PcAt w g (some ⟨g, off + 3, none⟩) r := fun hn => by
  obtain ⟨hg, off', e, hc, hf⟩ := h (by simp)
  injection e with e
  injection e with _ e _
  subst e
  refine ⟨hg, off + 3, rfl, fun i hi => ?_, hf⟩
  have := hc (i + 1) (by simp; omega)
  rw [show off + (i + 1) * 3 = off + 3 + i * 3 by omega] at this
  simpa using this

theorem PcAt.put {w : World} {g off : Nat} {p q : Pc} {r : List Pc} (h : PcAt w g (some ⟨g, off, none⟩) (p :: r)) :
    PcAt (((w.setCell ⟨g, off, none⟩ (.int .i64 q.f)).setCell ⟨g, off + 1, none⟩ (.int .i64 q.t)).setCell ⟨g, off + 2, none⟩ (.string q.x)) g (some ⟨g, off, none⟩) (q :: r) := fun _ => by
  obtain ⟨hg, off', e, hc, hf⟩ := h (by simp)
  injection e with e
  injection e with _ e _
  subst e
  obtain ⟨c0, c1, c2⟩ := hc 0 (by simp)
  simp only [Nat.zero_mul, Nat.add_zero] at c0 c1 c2
  refine ⟨by simp [World.setCell]; exact hg, off, rfl, fun i hi => ?_, fun j => by simp [hf]⟩
  cases i with
  | zero =>
    simp only [Nat.zero_mul, Nat.add_zero, List.getElem_cons_zero]
    simp [go_sem, c0, c1, c2]
  | succ i =>
    obtain ⟨e0, e1, e2⟩ := hc (i + 1) (by simpa using hi)
    simp only [List.getElem_cons_succ] at e0 e1 e2 ⊢
    refine ⟨?_, ?_, ?_⟩
    all_goals
      rw [World.cell?_setCell_other _ _ _ _ (by simp <;> omega), World.cell?_setCell_other _ _ _ _ (by simp <;> omega), World.cell?_setCell_other _ _ _ _ (by simp <;> omega)]
      assumption

theorem good_tl {p : Pc} {k : Int} (h : Good p) (h0 : 0 < k) (h1 : k < plen p) : Good (tl p k) ∧ Good (hd p k) := by
  obtain ⟨a0, a1, a2, a3⟩ := h
  by_cases hx : p.x.size = 0
  · have hpl : plen p = p.t - p.f := by unfold plen; rw [if_pos hx]
    have e1 : hd p k = ⟨p.f, p.f + k, ⟨#[]⟩⟩ := by unfold hd; rw [if_pos hx]
    have e2 : tl p k = ⟨p.f + k, p.t, ⟨#[]⟩⟩ := by unfold tl; rw [if_pos hx]
    rw [e1, e2]
    unfold Good
    have : (⟨#[]⟩ : ByteArray).size = 0 := rfl
    simp only [this]
    omega
  · obtain ⟨g1, g2, g3, g4⟩ := hd_put hx h0 h1
    have e1 : hd p k = ⟨0, 0, p.x.extract 0 k.toNat⟩ := by unfold hd; rw [if_neg hx]
    have e2 : tl p k = ⟨0, 0, p.x.extract k.toNat p.x.size⟩ := by unfold tl; rw [if_neg hx]
    rw [e1] at g1; rw [e2] at g2
    simp only at g1 g2
    rw [e1, e2]
    unfold Good
    simp only [g1, g2]
    omega
theorem good_plen {p : Pc} (h : Good p) : 0 ≤ plen p ∧ plen p ≤ 1000000000000000 := by
  obtain ⟨a0, a1, a2, a3⟩ := h
  unfold plen
  split <;> omega

set_option maxHeartbeats 4000000 in
set_option maxRecDepth 100000 in
theorem pass_any (F : Nat) (caps : List Value) (B g : Nat) (I : List Pc → (Nat → Prop) → World → Prop) (G : Pc → List Pc → Prop) (L : LayD F caps B I G) (A : Option Addr) (cap : Nat) (ps ps0 : List Pc) (k : Int) (D : Nat → Prop) (w : World)
    (hA : PcAt w g A ps) (hI : I ps0 D w) (hD : ¬ D g) (hB : B ≤ w.heap.size) (hg : B ≤ g) (hps : ∀ p ∈ ps, Good p) (hl : ps.length ≤ 1000000) (hcap : ps.length ≤ cap) (hcm : cap ≤ maxLen) (hk : k ≤ 1000000000000000)
    (hG : ∀ done p rest, done ++ [p] ++ rest = ps0 ++ ps1 ps k → G p done) :
    Calls Try.prog 64 #[.slice A ps.length cap, .int .i64 k, .func (.func F) #[] caps.toArray] w fun en w' => ∃ A' cap', en = .returned (.slice A' (ps2 ps k).length cap') ∧ (ps2 ps k).length ≤ cap' ∧ cap' ≤ maxLen ∧
      ∃ D', I (ps0 ++ ps1 ps k) D' w' ∧ ¬ D' g ∧ PcAt w' g A' (ps2 ps k) ∧ Below B w w' ∧ Kept (fun i => D i ∨ (i = g ∧ ps ≠ [])) (fun i => D' i ∨ (i = g ∧ ps ≠ [])) w w' := by
  have eF := L.enter
  have HA := Lib.hid hA
  have HI := Lib.hid hI
  have HL := Lib.hid L
  have HG := Lib.hid hG
  have HP := Lib.hid hps
  have HD := Lib.hid hD
  unfold maxLen at hcm
  clear hA hI hG hps hD
  go_enter Try.func64, Try.ntmps64
  go_wp2_with fail
  go_loopw [0, 1, 7] (fun lv kv _ wr => ∃ (A' : Option Addr) (cap' : Nat) (qs : List Pc) (kk : Int) (done : List Pc) (D' : Nat → Prop), lv = .slice A' qs.length cap' ∧ kv = .int .i64 kk ∧ qs.length ≤ cap' ∧ cap' ≤ 9223372036854775807 ∧ kk ≤ 1000000000000000 ∧ qs.length ≤ 1000000 ∧
      done ++ ps1 qs kk = ps1 ps k ∧ ps2 qs kk = ps2 ps k ∧ I (ps0 ++ done) D' wr ∧ ¬ D' g ∧ PcAt wr g A' qs ∧ (∀ p ∈ qs, Good p) ∧ Below B w wr ∧ Kept (fun i => D i ∨ (i = g ∧ ps ≠ [])) (fun i => D' i ∨ (i = g ∧ ps ≠ [])) w wr) (fun lv _ _ _ => match lv with | .slice _ n _ => n | _ => 0)
  case atStart => exact ⟨A, cap, ps, k, [], D, rfl, rfl, hcap, hcm, hk, hl, rfl, rfl, by rw [List.append_nil]; exact HI.out, HD.out, HA.out, HP.out, Below.refl _ _, Kept.refl _ _⟩
  case round =>
    obtain ⟨A', cap', qs, kk, done, D', rfl, rfl, hc1, hc2, hk1, hql, hd1, hd2, hi, hdg, ha, hgd, hb, hkp⟩ := hrel
    have H1 := Lib.hid hd1
    have H2 := Lib.hid hd2
    have H3 := Lib.hid hi
    have H4 := Lib.hid hdg
    have H5 := Lib.hid ha
    have H6 := Lib.hid hgd
    have H7 := Lib.hid hb
    have H8 := Lib.hid hkp
    clear hd1 hd2 hi hdg ha hgd hb hkp
    cases qs with
    | nil =>
      have R1 : Hid (I (ps0 ++ ps1 ps k) D' wr) := by
        unfold Hid; rw [← H1.out, show ps1 [] kk = [] from rfl, List.append_nil]; exact H3.out
      have R2 : Hid (ps2 ps k = []) := H2.out.symm
      simp only [List.length_nil] at *
      go_wp2_with fail
      all_goals
        go_ret
        exact ⟨A', cap', by rw [R2.out]; rfl, by rw [R2.out]; simp, by unfold maxLen; omega, D', R1.out, H4.out, by rw [R2.out]; intro h; simp at h, H7.out, H8.out⟩
    | cons p r =>
      obtain ⟨hgs, off, rfl, hcell, hfz⟩ := H5.out (by simp)
      have hgp := H6.out p (by simp)
      have hpl := good_plen hgp
      obtain ⟨c0, c1, c2⟩ := hcell 0 (by simp)
      simp only [Nat.zero_mul, Nat.add_zero, List.getElem_cons_zero] at c0 c1 c2
      have HF := Lib.hid hfz
      clear hcell hfz
      have hlen : 0 < (p :: r).length := by simp
      by_cases hk0 : kk ≤ 0
      · have R1 : Hid (I (ps0 ++ ps1 ps k) D' wr) := by
          unfold Hid; rw [← H1.out, show ps1 (p :: r) kk = [] by unfold ps1; rw [if_pos hk0], List.append_nil]; exact H3.out
        have R2 : Hid (ps2 ps k = p :: r) := by unfold Hid; rw [← H2.out]; unfold ps2; rw [if_pos hk0]
        have hd0 : decide (0 < kk) = false := by simp; omega
        clear hk0
        go_wp2_with fail
        go_ret
        exact ⟨some ⟨g, off, none⟩, cap', by rw [R2.out]; rfl, by rw [R2.out]; omega, by unfold maxLen; omega, D', R1.out, H4.out, by rw [R2.out]; exact H5.out, H7.out, H8.out⟩
      · have hk1' : 0 < kk := by omega
        clear hk0
        go_wp2_with fail
        refine (long_any p _ hgp).mono ?_
        rintro e w2 ⟨rfl, hb⟩
        have HB2 := Lib.hid hb
        have hbz := hb.size
        have d0 : w2.cell? ⟨g, off, none⟩ = some (.int .i64 p.f) := (hb.cell (p := ⟨g, off, none⟩) hgs).trans c0
        have d1 : w2.cell? ⟨g, off + 1, none⟩ = some (.int .i64 p.t) := (hb.cell (p := ⟨g, off + 1, none⟩) hgs).trans c1
        have d2 : w2.cell? ⟨g, off + 2, none⟩ = some (.string p.x) := (hb.cell (p := ⟨g, off + 2, none⟩) hgs).trans c2
        have J3 : Hid (I (ps0 ++ done) D' w2) := HL.out.keep _ _ _ _ H3.out hb.size (fun k hk _ => hb.block k hk)
        have J7 := Lib.hid (H7.out.trans (hb.mono (by have := H7.out.size; omega)))
        have J8 := Lib.hid (H8.out.trans (Kept.below (D := fun i => D' i ∨ (i = g ∧ ps ≠ [])) hb))
        have J5 := Lib.hid (H5.out.same hb.size (fun h => hb.block g h))
        clear hb c0 c1 c2
        by_cases hp : plen p ≤ kk
        · have E1 : Hid (ps1 (p :: r) kk = p :: ps1 r (kk - plen p)) := by unfold Hid; rw [ps1, if_neg (by omega), if_pos hp]
          have E2 : Hid (ps2 (p :: r) kk = ps2 r (kk - plen p)) := by unfold Hid; rw [ps2, if_neg (by omega), if_pos hp]
          have hBw2 : B ≤ w2.heap.size := by have := J7.out.size; omega
          have HG2 : Hid (G p (ps0 ++ done)) := HG.out (ps0 ++ done) p (ps1 r (kk - plen p)) (by rw [← H1.out, E1.out]; simp [List.append_assoc])
          go_wp2_with fail
          refine (HL.out.call (ps0 ++ done) D' p _ J3.out HG2.out hBw2).mono ?_
          rintro en w3 ⟨rfl, D3, hi3, hb3, hk3⟩
          have K3 : Hid (I (ps0 ++ (done ++ [p])) D3 w3) := by unfold Hid; rw [← List.append_assoc]; exact hi3
          have K4 : Hid (¬ D3 g) := (hk3.2 g (by omega) H4.out).2
          have K5 := Lib.hid ((J5.out.same hk3.1 (fun h => (hk3.2 g h H4.out).1)).tail)
          have K6 : Hid (∀ q ∈ r, Good q) := fun q hq => H6.out q (by simp [hq])
          have K7 := Lib.hid (J7.out.trans hb3)
          have K8 : Hid (Kept (fun i => D i ∨ (i = g ∧ ps ≠ [])) (fun i => D3 i ∨ (i = g ∧ ps ≠ [])) w w3) := J8.out.trans ⟨hk3.1, fun k hk hd => ⟨(hk3.2 k hk (fun h => hd (.inl h))).1, fun h => h.elim (hk3.2 k hk (fun h => hd (.inl h))).2 (fun h => hd (.inr h))⟩⟩
          have K1 : Hid (done ++ [p] ++ ps1 r (kk - plen p) = ps1 ps k) := by unfold Hid; rw [← H1.out, E1.out]; simp
          have K2 : Hid (ps2 r (kk - plen p) = ps2 ps k) := by unfold Hid; rw [← H2.out, E2.out]
          clear hi3 hb3 hk3 d0 d1 d2
          have hc1' : r.length + 1 ≤ cap' := by simpa using hc1
          have hql' : r.length + 1 ≤ 1000000 := by simpa using hql
          go_wp2_with fail
          go_roundw
          case rel => exact ⟨if cap' = 1 then some ⟨g, off, none⟩ else some ⟨g, off + 3, none⟩, cap' - 1, r, kk - plen p, done ++ [p], D3, rfl, rfl, by omega, by omega, by omega, by omega, K1.out, K2.out, K3.out, K4.out, fun hn => by rw [if_neg (by omega)]; exact K5.out hn, K6.out, K7.out, K8.out⟩
          case measure => simp
        · have hp' : kk < plen p := by omega
          have E1 : Hid (ps1 (p :: r) kk = [hd p kk]) := by unfold Hid; rw [ps1, if_neg (by omega), if_neg hp]
          have E2 : Hid (ps2 (p :: r) kk = tl p kk :: r) := by unfold Hid; rw [ps2, if_neg (by omega), if_neg hp]
          have hdp : decide (plen p ≤ kk) = false := by simp; omega
          have hgw2 : g < w2.heap.size := by omega
          clear hp
          go_wp2_with fail
          refine (split_any p kk _ hgp hk1' hp').mono ?_
          rintro e w3 ⟨rfl, hb⟩
          have hbz3 := hb.size
          have J3' : Hid (I (ps0 ++ done) D' w3) := HL.out.keep _ _ _ _ J3.out hb.size (fun k hk _ => hb.block k hk)
          have J7' := Lib.hid (J7.out.trans (hb.mono (by have := J7.out.size; omega)))
          have J8' := Lib.hid (J8.out.trans (Kept.below (D := fun i => D' i ∨ (i = g ∧ ps ≠ [])) hb))
          have J5' := Lib.hid (J5.out.same hb.size (fun h => hb.block g h))
          have d0' : w3.cell? ⟨g, off, none⟩ = some (.int .i64 p.f) := (hb.cell (p := ⟨g, off, none⟩) hgw2).trans d0
          have d1' : w3.cell? ⟨g, off + 1, none⟩ = some (.int .i64 p.t) := (hb.cell (p := ⟨g, off + 1, none⟩) hgw2).trans d1
          have d2' : w3.cell? ⟨g, off + 2, none⟩ = some (.string p.x) := (hb.cell (p := ⟨g, off + 2, none⟩) hgw2).trans d2
          clear hb d0 d1 d2
          go_wp2_with fail
          have hBw3 : B ≤ ((w3.alloc (.cells #[.int .i64 (hd p kk).f, .int .i64 (hd p kk).t, .string (hd p kk).x] 79)).alloc (.cells #[.int .i64 (tl p kk).f, .int .i64 (tl p kk).t, .string (tl p kk).x] 79)).heap.size := by
            have := J7'.out.size; simp; omega
          have HG2 : Hid (G (hd p kk) (ps0 ++ done)) := HG.out (ps0 ++ done) (hd p kk) [] (by rw [← H1.out, E1.out]; simp [List.append_assoc])
          have hal : Below w3.heap.size w3 ((w3.alloc (.cells #[.int .i64 (hd p kk).f, .int .i64 (hd p kk).t, .string (hd p kk).x] 79)).alloc (.cells #[.int .i64 (tl p kk).f, .int .i64 (tl p kk).t, .string (tl p kk).x] 79)) :=
            ((Below.refl _ _).alloc (Nat.le_refl _) _).alloc (by simp) _
          have htl : RowB ((w3.alloc (.cells #[.int .i64 (hd p kk).f, .int .i64 (hd p kk).t, .string (hd p kk).x] 79)).alloc (.cells #[.int .i64 (tl p kk).f, .int .i64 (tl p kk).t, .string (tl p kk).x] 79)) (w3.heap.size + 1) 79 #[.int .i64 (tl p kk).f, .int .i64 (tl p kk).t, .string (tl p kk).x] :=
            row_new _ 79 _ (by simp)
          have hnd : ¬ D' (w3.heap.size + 1) := fun h => by have := HL.out.dom _ _ _ _ J3'.out h; omega
          have J3a : Hid (I (ps0 ++ done) D' ((w3.alloc (.cells #[.int .i64 (hd p kk).f, .int .i64 (hd p kk).t, .string (hd p kk).x] 79)).alloc (.cells #[.int .i64 (tl p kk).f, .int .i64 (tl p kk).t, .string (tl p kk).x] 79))) :=
            HL.out.keep _ _ _ _ J3'.out hal.size (fun k hk _ => hal.block k hk)
          have J5a := Lib.hid (J5'.out.same hal.size (fun h => hal.block g h))
          have J7a := Lib.hid (J7'.out.trans (hal.mono (by have := J7'.out.size; omega)))
          have J8a := Lib.hid (J8'.out.trans (Kept.below (D := fun i => D' i ∨ (i = g ∧ ps ≠ [])) hal))
          have HTL := Lib.hid htl
          have HND := Lib.hid hnd
          have hgs4 : g < ((w3.alloc (.cells #[.int .i64 (hd p kk).f, .int .i64 (hd p kk).t, .string (hd p kk).x] 79)).alloc (.cells #[.int .i64 (tl p kk).f, .int .i64 (tl p kk).t, .string (tl p kk).x] 79)).heap.size := by simp; omega
          clear hal htl hnd
          refine (HL.out.call (ps0 ++ done) D' (hd p kk) _ J3a.out HG2.out hBw3).mono ?_
          rintro en w4 ⟨rfl, D4, hi4, hb4, hk4⟩
          have K3 : Hid (I (ps0 ++ ps1 ps k) D4 w4) := by unfold Hid; rw [← H1.out, E1.out, ← List.append_assoc]; exact hi4
          have K4 : Hid (¬ D4 g) := (hk4.2 g hgs4 H4.out).2
          have K5 := Lib.hid (J5a.out.same hk4.1 (fun h => (hk4.2 g h H4.out).1))
          have K7 := Lib.hid (J7a.out.trans hb4)
          have K8 : Hid (Kept (fun i => D i ∨ (i = g ∧ ps ≠ [])) (fun i => D4 i ∨ (i = g ∧ ps ≠ [])) w w4) := J8a.out.trans ⟨hk4.1, fun k hk hd => ⟨(hk4.2 k hk (fun h => hd (.inl h))).1, fun h => h.elim (hk4.2 k hk (fun h => hd (.inl h))).2 (fun h => hd (.inr h))⟩⟩
          have K2 : Hid (tl p kk :: r = ps2 ps k) := by unfold Hid; rw [← H2.out, E2.out]
          have htl4 := row_kept HTL.out hk4 HND.out
          obtain ⟨hgw4, off', eo, hc4, hf4⟩ := K5.out (by simp)
          injection eo with eo
          injection eo with _ eo _
          subst eo
          obtain ⟨x0, x1, x2⟩ := hc4 0 (by simp)
          simp only [Nat.zero_mul, Nat.add_zero, List.getElem_cons_zero] at x0 x1 x2
          have y0 := hf4 off
          have y1 := hf4 (off + 1)
          have y2 := hf4 (off + 2)
          have z0 : w4.cell? ⟨w3.heap.size + 1, 0, none⟩ = some (.int .i64 (tl p kk).f) := htl4.cell 0
          have z1 : w4.cell? ⟨w3.heap.size + 1, 1, none⟩ = some (.int .i64 (tl p kk).t) := htl4.cell 1
          have z2 : w4.cell? ⟨w3.heap.size + 1, 2, none⟩ = some (.string (tl p kk).x) := htl4.cell 2
          clear hi4 hb4 hk4 hc4 hf4 htl4 d0' d1' d2'
          go_wp2_with fail
          go_ret
          refine ⟨some ⟨g, off, none⟩, cap', by rw [← K2.out]; rfl, by rw [← K2.out]; exact hc1, by unfold maxLen; omega, D4, HL.out.keep _ _ _ _ K3.out (by simp [World.setCell]) ?_, K4.out, by rw [← K2.out]; exact K5.out.put, ?_, ?_⟩
          · intro k hk hd
            have hne : k ≠ g := fun e => K4.out (e ▸ hd)
            rw [Below.heap_setCell _ _ _ _ hne, Below.heap_setCell _ _ _ _ hne, Below.heap_setCell _ _ _ _ hne]
          · exact ((K7.out.setCell (p := ⟨g, off, none⟩) hg _).setCell (p := ⟨g, off + 1, none⟩) hg _).setCell (p := ⟨g, off + 2, none⟩) hg _
          · refine K8.out.trans ⟨by simp [World.setCell], fun k hk hd => ⟨?_, hd⟩⟩
            have hpne : ps ≠ [] := by
              intro e
              have h2 := K2.out
              rw [e] at h2
              simp [ps2] at h2
            have hne : k ≠ g := fun e => hd (.inr ⟨e, hpne⟩)
            rw [Below.heap_setCell _ _ _ _ hne, Below.heap_setCell _ _ _ _ hne, Below.heap_setCell _ _ _ _ hne]
end Go.Proofs.Ytendbkbjmibchaa
