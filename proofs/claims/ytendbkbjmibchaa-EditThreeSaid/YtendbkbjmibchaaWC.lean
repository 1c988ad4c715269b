/- The contract of edit.walkBoth. -/
import Derived.Test.YtendbkbjmibchaaWB
namespace Go.Proofs.Ytendbkbjmibchaa
open Go.RowKit

/-- Between two edits of b: the pieces that are left lie in block g, the variable in block rb holds them. -/
structure Mid (B rb g : Nat) (I : List Pc → (Nat → Prop) → World → Prop) (X : List Pc) (D D' : Nat → Prop) (A' : Option Addr) (cap' : Nat) (q : List Pc) (w wr : World) : Prop where
  inv : I X D' wr
  nrb : ¬ D' rb
  ng : ¬ D' g
  far : q ≠ [] → g ≠ rb
  ge : rb ≤ g
  lt : g < wr.heap.size
  at_ : PcAt wr g A' q
  var : RowB wr rb 96 #[.slice A' q.length cap']
  good : ∀ p ∈ q, Good p
  len : q.length ≤ 1000000
  cap : q.length ≤ cap' ∧ cap' ≤ 9223372036854775807
  bel : Below B w wr
  kept : Kept D D' w wr

theorem pcat_own {w : World} {base n c : Nat} {A : Option Addr} {ps : List Pc} (h : w.ownsRow base 79 3 (.slice A n c) n (pcl ps)) (hn : n = ps.length) (rb : Nat) (hrb : rb < w.heap.size) (hne : (Value.slice A n c).ownBlock ≠ some rb) (hb : rb ≤ base) :
    ∃ g, PcAt w g A ps ∧ rb ≤ g ∧ g < w.heap.size ∧ (ps ≠ [] → g ≠ rb) ∧ n ≤ c ∧ c ≤ maxLen := by
  subst hn
  rcases h.2 with ⟨hv, hx⟩ | ⟨g, cap, cur, hv, hg, hh, hc, hcm, _⟩
  · injection hv with hA hn hc
    exact ⟨rb, fun h => by omega, Nat.le_refl _, hrb, fun h => absurd (List.length_pos_iff.2 h) (by omega), by omega, by subst hc; unfold maxLen; omega⟩
  · injection hv with hA _ hcc
    subst hA hcc
    refine ⟨g, fun h0 => ⟨(h.lt g rfl).2, 0, rfl, fun i hi => ?_, fun j => h.frozenAt j⟩, by omega, (h.lt g rfl).2, fun _ e => hne (by rw [e]; rfl), hc, hcm⟩
    obtain ⟨a0, a1, a2⟩ := pcl_at ps i hi
    have b0 := h.cells (g := g) rfl _ _ a0
    have b1 := h.cells (g := g) rfl _ _ a1
    have b2 := h.cells (g := g) rfl _ _ a2
    have hadd : ∀ j, (⟨g, 0, none⟩ : Addr).add j = ⟨g, 0 + j, none⟩ := fun j => by unfold Addr.add; split <;> simp_all
    rw [hadd] at b0 b1 b2
    exact ⟨b0, by rw [← Nat.add_assoc] at b1; exact b1, by rw [← Nat.add_assoc] at b2; exact b2⟩

/-- The list's variable gets the pieces behind. -/
theorem Mid.step {B rb g : Nat} {I : List Pc → (Nat → Prop) → World → Prop} {X X' : List Pc} {D D' D'' : Nat → Prop} {A' A'' : Option Addr} {cap' cap'' : Nat} {q q' : List Pc} {w wr wm : World} {F : Nat} {caps : List Value} {G : Pc → List Pc → Prop} (L : LayD F caps B I G)
    (h : Mid B rb g I X D D' A' cap' q w wr) (hrbw : w.heap.size ≤ rb) (hBw : B ≤ w.heap.size)
    (hI : I X' D'' wm) (hg : ¬ D'' g) (ha : PcAt wm g A'' q') (hb : Below B wr wm) (hk : Kept (fun i => D' i ∨ (i = g ∧ q ≠ [])) (fun i => D'' i ∨ (i = g ∧ q ≠ [])) wr wm) (hq : q' ≠ [] → q ≠ []) (hgd : ∀ p ∈ q', Good p) (hl : q'.length ≤ 1000000) (hc : q'.length ≤ cap'' ∧ cap'' ≤ 9223372036854775807) :
    Mid B rb g I X' D D'' A'' cap'' q' w (wm.setCell ⟨rb, 0, none⟩ (.slice A'' q'.length cap'')) ∧ wm.frozen? ⟨rb, 0, none⟩ = false ∧ wm.cell? ⟨rb, 0, none⟩ = some (.slice A' q.length cap') := by
  have hrl := h.var.lt
  have hnr : ¬ (D' rb ∨ (rb = g ∧ q ≠ [])) := fun e => e.elim h.nrb (fun e => h.far e.2 e.1.symm)
  have hv : RowB wm rb 96 #[.slice A' q.length cap'] := (hk.2 rb hrl hnr).1.trans h.var
  have hnr2 : ¬ D'' rb := fun e => (hk.2 rb hrl hnr).2 (.inl e)
  have hrm : rb < wm.heap.size := hv.lt
  refine ⟨⟨?_, hnr2, hg, fun e => h.far (hq e), h.ge, ?_, ?_, hv.put 0 _, hgd, hl, hc, ?_, ?_⟩, hv.thaw 0, hv.cell 0⟩
  · exact L.keep _ _ _ _ hI (by simp [World.setCell]) (fun k hkk hd => Below.heap_setCell _ _ _ _ (fun e => hnr2 (by have : k = rb := e; rw [← this]; exact hd)))
  · have := hk.1; have := h.lt; simp [World.setCell]; omega
  · intro hn
    have hqn : q' ≠ [] := by intro e; rw [e] at hn; simp at hn
    exact ha.same (by simp [World.setCell]) (fun _ => Below.heap_setCell _ _ _ _ (h.far (hq hqn))) hn
  · exact (h.bel.trans hb).setCell (p := ⟨rb, 0, none⟩) (by simp only; omega) _
  · refine ⟨by have := hk.1; have := h.kept.1; simp [World.setCell]; omega, fun k hkw hd => ?_⟩
    have h1 := h.kept.2 k hkw hd
    have hkg : k ≠ g := by have := h.ge; omega
    have h2 := hk.2 k (by have := h.kept.1; omega) (fun e => e.elim h1.2 (fun e => hkg e.1))
    refine ⟨?_, fun e => h2.2 (.inl e)⟩
    rw [Below.heap_setCell _ _ _ _ (by simp only; omega)]
    exact h2.1.trans h1.1
/-- New blocks do no harm. -/
theorem Mid.below {B rb g : Nat} {I : List Pc → (Nat → Prop) → World → Prop} {X : List Pc} {D D' : Nat → Prop} {A' : Option Addr} {cap' : Nat} {q : List Pc} {w wr wm : World} {F : Nat} {caps : List Value} {G : Pc → List Pc → Prop} (L : LayD F caps B I G)
    (h : Mid B rb g I X D D' A' cap' q w wr) (hBw : B ≤ w.heap.size) (hb : Below wr.heap.size wr wm) : Mid B rb g I X D D' A' cap' q w wm where
  inv := L.keep _ _ _ _ h.inv hb.size (fun k hk _ => hb.block k hk)
  nrb := h.nrb
  ng := h.ng
  far := h.far
  ge := h.ge
  lt := by have := hb.size; have := h.lt; omega
  at_ := h.at_.same hb.size (fun e => hb.block g e)
  var := h.var.below hb h.var.lt
  good := h.good
  len := h.len
  cap := h.cap
  bel := h.bel.trans (hb.mono (by have := h.bel.size; omega))
  kept := h.kept.trans (Kept.below hb)
/-- A piece laid between. -/
theorem Mid.laid {B rb g : Nat} {I : List Pc → (Nat → Prop) → World → Prop} {X X' : List Pc} {D D' D'' : Nat → Prop} {A' : Option Addr} {cap' : Nat} {q : List Pc} {w wr wm : World}
    (h : Mid B rb g I X D D' A' cap' q w wr) (hI : I X' D'' wm) (hb : Below B wr wm) (hk : Kept D' D'' wr wm) : Mid B rb g I X' D D'' A' cap' q w wm where
  inv := hI
  nrb := (hk.2 rb h.var.lt h.nrb).2
  ng := (hk.2 g h.lt h.ng).2
  far := h.far
  ge := h.ge
  lt := by have := hk.1; have := h.lt; omega
  at_ := h.at_.same hk.1 (fun e => (hk.2 g e h.ng).1)
  var := row_kept h.var hk h.nrb
  good := h.good
  len := h.len
  cap := h.cap
  bel := h.bel.trans hb
  kept := h.kept.trans hk

set_option maxHeartbeats 8000000 in
set_option maxRecDepth 100000 in
theorem walkBoth_any (F : Nat) (caps : List Value) (B : Nat) (I : List Pc → (Nat → Prop) → World → Prop) (G : Pc → List Pc → Prop) (L : LayD F caps B I G) (A1 A2 : Option Addr) (cap1 cap2 : Nat) (a b : List Ed) (n : Int) (ps0 : List Pc) (D : Nat → Prop) (w : World)
    (ha : Eds w w.heap.size A1 a) (hb : Eds w w.heap.size A2 b) (hI : I ps0 D w) (hB : B ≤ w.heap.size) (hla : a.length ≤ 512) (hlb : b.length ≤ 512) (hDe : ∀ k, k < w.heap.size → D k → B ≤ k) (hae : Eds w B A1 a) (hbe : Eds w B A2 b)
    (hgood : ∀ p ∈ pcs n 0 a, Good p) (hpl : (pcs n 0 a).length ≤ 1000000) (hbs : ∀ e ∈ b, 0 ≤ e.f ∧ e.f ≤ e.t ∧ e.t ≤ 1000000000000000 ∧ e.x.size ≤ 1000000000000000)
    (hG : ∀ done p rest, done ++ [p] ++ rest = ps0 ++ both (pcs n 0 a) 0 b → G p done) :
    Calls Try.prog 53 #[.slice A1 a.length cap1, .slice A2 b.length cap2, .int .i64 n, .func (.func F) #[] caps.toArray] w fun en w' => en = .returned (.tuple #[]) ∧ ∃ D', I (ps0 ++ both (pcs n 0 a) 0 b) D' w' ∧ Below B w w' ∧ Kept D D' w w' := by
  have hmf : ∀ (fn : Fn) (first cap : Array Value) (w : World), (Instr.makeFunc fn first cap).run Try.prog w = .ok (.func fn first cap) w := fun _ _ _ _ => rfl
  have eF := L.enter
  have HA := Lib.hid ha
  have HBE := Lib.hid hbe
  have HI := Lib.hid hI
  have HL := Lib.hid L
  have HG := Lib.hid hG
  have HGD := Lib.hid hgood
  have HBS := Lib.hid hbs
  clear ha hb hI hG hgood hbs hae hDe
  go_enter Try.func53, Try.ntmps53
  go_wp2_with fail
  have b0 : Below w.heap.size w (w.alloc (.cells #[.slice none 0 0] 96)) := (Below.refl _ _).alloc (Nat.le_refl _) _
  refine (walk63 _ w.heap.size w.heap.size 79 (PI w.heap.size w.heap.size) _ (lays63 w.heap.size w.heap.size) (by decide) (by decide) A1 cap1 a n [] _ (HA.out.below b0) ⟨Nat.le_refl _, .slice none 0 0, RowB.new _ _ _, ⟨rfl, .inl ⟨rfl, rfl⟩⟩, by simp [Value.ownBlock]⟩ (by simp) (by simp) (by omega)
    (fun done p rest h => by have := congrArg List.length h; simp at this; omega)).mono ?_
  rintro en w1 ⟨rfl, hp, hb1⟩
  rw [List.nil_append] at hp
  obtain ⟨_, v, hv, hown, hne⟩ := hp
  obtain ⟨A', cap', rfl⟩ := own_form3 hown
  obtain ⟨g, hat, hge, hglt, hfar, hc1, hc2⟩ := pcat_own hown rfl w.heap.size hv.lt hne (Nat.le_refl _)
  unfold maxLen at hc2
  have hbw : Below w.heap.size w w1 := b0.trans hb1
  have hnd : ∀ k, w.heap.size ≤ k → ¬ D k := fun k hk hd => by have := HL.out.dom _ _ _ _ HI.out hd; omega
  have M0 : Hid (Mid B w.heap.size g I ps0 D D A' cap' (pcs n 0 a) w w1) := ⟨HL.out.keep _ _ _ _ HI.out hbw.size (fun k hk _ => hbw.block k hk), hnd _ (Nat.le_refl _), hnd _ hge, hfar, hge, hglt, hat, hv, HGD.out, hpl, ⟨hc1, hc2⟩, hbw.mono hB, Kept.below hbw⟩
  clear b0 hv hown hne hat hge hglt hfar hbw hb1 hnd hc1 hc2
  go_wp2_with fail
  generalize hrb : w.heap.size = rb at M0 ⊢
  go_loopw [9, 11, 20] (fun av _ iv wr => ∃ (k : Nat) (at_ : Int) (done : List Pc) (D' : Nat → Prop) (A'' : Option Addr) (cap'' : Nat) (q : List Pc), k ≤ b.length ∧ iv = .int .i64 k ∧ av = .int .i64 at_ ∧ 0 ≤ at_ ∧ at_ ≤ 1000000000000000 ∧ done ++ both q at_ (b.drop k) = both (pcs n 0 a) 0 b ∧ Mid B rb g I (ps0 ++ done) D D' A'' cap'' q w wr) (fun _ _ iv _ => b.length - (intOf iv).toNat)
  case atStart => exact ⟨0, 0, [], D, A', cap', _, by omega, rfl, rfl, by omega, by omega, rfl, by rw [List.append_nil]; exact M0.out⟩
  case round =>
    obtain ⟨k, at_, done, D', A'', cap'', q, hk, rfl, rfl, ht0, ht1, hd, hM⟩ := hrel
    have H1 := Lib.hid hd
    have M := Lib.hid hM
    have v0 : wr.cell? ⟨rb, 0, none⟩ = some (.slice A'' q.length cap'') := hM.var.cell 0
    have hrbr := hM.var.lt
    have hglr := hM.lt
    have hger := hM.ge
    have hcr := hM.cap
    have hBr : B ≤ wr.heap.size := by have := hM.bel.size; omega
    clear hd hM
    by_cases hlt : k < b.length
    · obtain ⟨bb, off, rfl, hbl, hcell⟩ := (HBE.out.below M.out.bel) (by omega)
      obtain ⟨q0, q1, q2⟩ := hcell k hlt
      obtain ⟨s0, s1, s2, s3⟩ := HBS.out b[k] (List.getElem_mem hlt)
      have HBA := Lib.hid (both_at q at_ b k hlt)
      obtain ⟨y, hy⟩ : ∃ y, y = b[k] := ⟨_, rfl⟩
      rw [← hy] at q0 q1 q2 s0 s1 s2 s3
      have HY := Lib.hid hy
      have hbbr : bb < wr.heap.size := by omega
      clear hcell hy
      obtain ⟨p1, hp1⟩ : ∃ p1, p1 = ps1 q (y.f - at_) := ⟨_, rfl⟩
      obtain ⟨q1', hq1'⟩ : ∃ q1', q1' = ps2 q (y.f - at_) := ⟨_, rfl⟩
      obtain ⟨q2', hq2'⟩ : ∃ q2', q2' = ps2 q1' (y.t - y.f) := ⟨_, rfl⟩
      have EQ : Hid (done ++ (p1 ++ tx_ y.x ++ both q2' y.t (b.drop (k + 1))) = both (pcs n 0 a) 0 b) := by
        unfold Hid; rw [← H1.out, HBA.out, ← HY.out, hp1, hq2', hq1']
      have P1 := Lib.hid hp1
      have P2 := Lib.hid hq1'
      have P3 := Lib.hid hq2'
      clear hp1 hq1' hq2'
      have hal : Below wr.heap.size wr (wr.alloc (.cells #[.int .i64 y.f, .int .i64 y.t, .string y.x] 68)) := (Below.refl _ _).alloc (Nat.le_refl _) _
      have M1 := Lib.hid (Mid.below HL.out M.out hB hal)
      have BX := Lib.hid (RowB.new wr 68 #[.int .i64 y.f, .int .i64 y.t, .string y.x])
      have hbx : ¬ D' wr.heap.size := fun h => by have := HL.out.dom _ _ _ _ M.out.inv h; omega
      have HBX := Lib.hid hbx
      clear hal hbx
      go_wp2_with fail
      refine (pass_any F caps B g I G HL.out A'' cap'' q (ps0 ++ done) (y.f - at_) D' _ M1.out.at_ M1.out.inv M1.out.ng (by simp; omega) (by omega) M1.out.good M1.out.len hcr.1 (by unfold maxLen; omega) (by omega)
        (fun d p r h => HG.out d p (r ++ (tx_ y.x ++ both q2' y.t (b.drop (k + 1)))) (by rw [← EQ.out, P1.out, ← List.append_assoc, h]; simp [List.append_assoc]))).mono ?_
      rintro en w2 ⟨A2', c2', rfl, hc21, hc22, D2, hi2, hng2, hat2, hb2, hk2⟩
      unfold maxLen at hc22
      rw [← P1.out] at hi2
      rw [← P2.out] at hat2 hc21 ⊢
      have hq12 : q1' ≠ [] → q ≠ [] := fun h e => h (by rw [P2.out, e]; rfl)
      obtain ⟨hM2, fz2, cl2⟩ := Mid.step HL.out M1.out (by omega) hB hi2 hng2 hat2 hb2 hk2 hq12 (by rw [P2.out]; exact good_ps2 _ _ M1.out.good) (by have := len_ps2 q (y.f - at_); have := M1.out.len; rw [P2.out]; omega) ⟨hc21, hc22⟩
      have hbx2 : ¬ (D' wr.heap.size ∨ (wr.heap.size = g ∧ q ≠ [])) := fun h => h.elim HBX.out (fun h => by omega)
      have BX2a := row_kept BX.out hk2 hbx2
      obtain ⟨x0, x1, x2⟩ : w2.cell? ⟨wr.heap.size, 0, none⟩ = some (.int .i64 y.f) ∧ w2.cell? ⟨wr.heap.size, 1, none⟩ = some (.int .i64 y.t) ∧ w2.cell? ⟨wr.heap.size, 2, none⟩ = some (.string y.x) := ⟨BX2a.cell 0, BX2a.cell 1, BX2a.cell 2⟩
      have BX2 := Lib.hid (BX2a.far (p := ⟨rb, 0, none⟩) (by simp; omega) (.slice A2' q1'.length c2'))
      have HBX2 : Hid (¬ D2 wr.heap.size) := fun h => (hk2.2 wr.heap.size (by simp) hbx2).2 (.inl h)
      have M2 := Lib.hid hM2
      clear hi2 hng2 hat2 hb2 hk2 hM2 hbx2 BX2a
      have hrx : rb ≠ wr.heap.size := by omega
      have hq1l : q1'.length ≤ 1000000 := M2.out.len
      obtain ⟨W2, hW2⟩ : ∃ W2, W2 = w2.setCell ⟨rb, 0, none⟩ (.slice A2' q1'.length c2') := ⟨_, rfl⟩
      go_wp2_with fail
      rw [← hW2] at M2 BX2 ⊢
      have hglr2 := M2.out.lt
      have hbx2 : wr.heap.size < W2.heap.size := BX2.out.lt
      have hBr2 : B ≤ W2.heap.size := by omega
      refine (pass_any 65 [] B g (fun _ D w => I (ps0 ++ done ++ p1) D w) (fun _ _ => True) (lay65 F caps B I G HL.out (ps0 ++ done ++ p1)) A2' c2' q1' [] (y.t - y.f) D2 _ M2.out.at_ M2.out.inv M2.out.ng hBr2 (by omega) M2.out.good M2.out.len hc21 (by unfold maxLen; omega) (by omega)
        (fun _ _ _ _ => trivial)).mono ?_
      rintro en w3 ⟨A3', c3', rfl, hc31, hc32, D3, hi3, hng3, hat3, hb3, hk3⟩
      unfold maxLen at hc32
      rw [← P3.out] at hat3 hc31 ⊢
      have hq23 : q2' ≠ [] → q1' ≠ [] := fun h e => h (by rw [P3.out, e]; rfl)
      obtain ⟨hM3, fz3, cl3⟩ := Mid.step HL.out M2.out (by omega) hB hi3 hng3 hat3 hb3 hk3 hq23 (by rw [P3.out]; exact good_ps2 _ _ M2.out.good) (by have := len_ps2 q1' (y.t - y.f); rw [P3.out]; omega) ⟨hc31, hc32⟩
      have hbx3 : ¬ (D2 wr.heap.size ∨ (wr.heap.size = g ∧ q1' ≠ [])) := fun h => h.elim HBX2.out (fun h => by omega)
      have BX3a := row_kept BX2.out hk3 hbx3
      obtain ⟨y0, y1, y2⟩ : w3.cell? ⟨wr.heap.size, 0, none⟩ = some (.int .i64 y.f) ∧ w3.cell? ⟨wr.heap.size, 1, none⟩ = some (.int .i64 y.t) ∧ w3.cell? ⟨wr.heap.size, 2, none⟩ = some (.string y.x) := ⟨BX3a.cell 0, BX3a.cell 1, BX3a.cell 2⟩
      have BX3 := Lib.hid (BX3a.far (p := ⟨rb, 0, none⟩) (by simp; omega) (.slice A3' q2'.length c3'))
      have HBX3 : Hid (¬ D3 wr.heap.size) := fun h => (hk3.2 wr.heap.size hbx2 hbx3).2 (.inl h)
      have M3 := Lib.hid hM3
      have hq2l : q2'.length ≤ 1000000 := hM3.len
      clear hi3 hng3 hat3 hb3 hk3 hM3 hbx3 BX3a x0 x1 x2 fz2 cl2
      by_cases hz : y.x.size = 0
      · have g4 : y.x.toList.isEmpty = true := by rw [empty_iff]; simpa using hz
        have HT : Hid (tx_ y.x = []) := by unfold Hid tx_; rw [if_pos hz]
        have RD : Hid (done ++ p1 ++ both q2' y.t (b.drop (k + 1)) = both (pcs n 0 a) 0 b) := by unfold Hid; rw [← EQ.out, HT.out]; simp [List.append_assoc]
        clear hz
        go_wp2_with fail
        go_roundw
        case rel => exact ⟨k + 1, y.t, done ++ p1, D3, A3', c3', q2', by omega, by go_num, rfl, by omega, by omega, RD.out, by rw [← List.append_assoc]; exact M3.out⟩
        case measure => simp [intOf]; omega
      · have g4 : y.x.toList.isEmpty = false := by rw [empty_iff]; simpa using hz
        have HT : Hid (tx_ y.x = [⟨0, 0, y.x⟩]) := by unfold Hid tx_; rw [if_neg hz]
        have RD : Hid (done ++ p1 ++ [⟨0, 0, y.x⟩] ++ both q2' y.t (b.drop (k + 1)) = both (pcs n 0 a) 0 b) := by unfold Hid; rw [← EQ.out, HT.out]; simp [List.append_assoc]
        clear hz
        have hGp : G ⟨0, 0, y.x⟩ (ps0 ++ done ++ p1) := HG.out (ps0 ++ done ++ p1) ⟨0, 0, y.x⟩ (both q2' y.t (b.drop (k + 1))) (by rw [← RD.out]; simp [List.append_assoc])
        have HGP := Lib.hid hGp
        clear hGp
        obtain ⟨W3, hW3⟩ : ∃ W3, W3 = w3.setCell ⟨rb, 0, none⟩ (.slice A3' q2'.length c3') := ⟨_, rfl⟩
        have hbw3 : B ≤ (w3.setCell ⟨rb, 0, none⟩ (.slice A3' q2'.length c3')).heap.size := by have := M3.out.bel.size; omega
        go_wp2_with fail
        refine (HL.out.call (ps0 ++ done ++ p1) D3 ⟨0, 0, y.x⟩ _ M3.out.inv HGP.out hbw3).mono ?_
        rintro en w4 ⟨rfl, D4, hi4, hb4, hk4⟩
        have M4 := Lib.hid (M3.out.laid hi4 hb4 hk4)
        have BX4 := row_kept BX3.out hk4 HBX3.out
        have z1 : w4.cell? ⟨wr.heap.size, 1, none⟩ = some (.int .i64 y.t) := BX4.cell 1
        clear hi4 hb4 hk4 BX4 hW3 y0 y1 y2 cl3 fz3
        go_wp2_with fail
        go_roundw
        case rel => exact ⟨k + 1, y.t, done ++ p1 ++ [⟨0, 0, y.x⟩], D4, A3', c3', q2', by omega, by go_num, rfl, by omega, by omega, RD.out, by rw [← List.append_assoc, ← List.append_assoc]; exact M4.out⟩
        case measure => simp [intOf]; omega
    · obtain rfl : k = b.length := by omega
      have RD : Hid (done ++ q = both (pcs n 0 a) 0 b) := by unfold Hid; rw [← H1.out, List.drop_length]; rfl
      clear hlt
      go_wp2_with fail
      go_loopw [13, 51] (fun _ iv wx => ∃ (j : Nat) (don : List Pc) (D'' : Nat → Prop), j ≤ q.length ∧ iv = .int .i64 j ∧ don ++ q.drop j = both (pcs n 0 a) 0 b ∧ Mid B rb g I (ps0 ++ don) D D'' A'' cap'' q w wx) (fun _ iv _ => q.length - (intOf iv).toNat)
      case atStart => exact ⟨0, done, D', by omega, rfl, RD.out, M.out⟩
      case round =>
        obtain ⟨j, don, D'', hj, rfl, hd, hM⟩ := hrel
        have N1 := Lib.hid hd
        have N := Lib.hid hM
        have hBx : B ≤ wr.heap.size := by have := hM.bel.size; omega
        clear hd hM
        by_cases hjl : j < q.length
        · obtain ⟨hgs, off, rfl, hcell, _⟩ := N.out.at_ (by omega)
          obtain ⟨c0, c1, c2⟩ := hcell j hjl
          have hdj := List.drop_eq_getElem_cons hjl
          obtain ⟨y, hy⟩ : ∃ y, y = q[j] := ⟨_, rfl⟩
          rw [← hy] at c0 c1 c2 hdj
          have RD2 : Hid (don ++ [y] ++ q.drop (j + 1) = both (pcs n 0 a) 0 b) := by unfold Hid; rw [← N1.out, hdj]; simp
          have HGP : Hid (G y (ps0 ++ don)) := HG.out (ps0 ++ don) y (q.drop (j + 1)) (by rw [← RD2.out]; simp [List.append_assoc])
          have hal : Below wr.heap.size wr (wr.alloc (.cells #[.int .i64 y.f, .int .i64 y.t, .string y.x] 79)) := (Below.refl _ _).alloc (Nat.le_refl _) _
          have N2 := Lib.hid (Mid.below HL.out N.out hB hal)
          clear hcell hy hdj hal
          go_wp2_with fail
          refine (HL.out.call (ps0 ++ don) D'' y _ N2.out.inv HGP.out (by simp; omega)).mono ?_
          rintro en w4 ⟨rfl, D4, hi4, hb4, hk4⟩
          have N4 := Lib.hid (N2.out.laid hi4 hb4 hk4)
          clear hi4 hb4 hk4 c0 c1 c2
          go_wp2_with fail
          go_roundw
          case rel => exact ⟨j + 1, don ++ [y], D4, by omega, by go_num, RD2.out, by rw [← List.append_assoc]; exact N4.out⟩
          case measure => simp [intOf]; omega
        · obtain rfl : j = q.length := by omega
          have RD2 : Hid (don = both (pcs n 0 a) 0 b) := by unfold Hid; rw [← N1.out, List.drop_length, List.append_nil]
          clear hjl
          go_wp2_with fail
          go_end0
          exact ⟨rfl, D'', by rw [← RD2.out]; exact N.out.inv, N.out.bel, N.out.kept⟩
end Go.Proofs.Ytendbkbjmibchaa
