/- Contracts: what two lists have in common at their beginnings and ends. -/
import Derived.Test.YthbmnnnlkgbieaaGreatDoorMB2
import Derived.Maps.OwnSet
import Derived.Test.YthbmnnnlkgbieaaGreatDoorMA1
import Derived.Laws.OwnMore
import Derived.Lib.SmallJoins
import Derived.Test.YthbmnnnlkgbieaaGreatDoorTF
namespace Go.Proofs.YthbmnnnlkgbieaaGreatDoor
open Go.RowKit Go.Op

/-- The address A holds these strings, a cell each, below block B. -/
def Strs (w : World) (B : Nat) (A : Option Addr) (l : List ByteArray) : Prop :=
  0 < l.length → ∃ g off : Nat, A = some ⟨g, off, none⟩ ∧ g < B ∧ ∀ i (h : i < l.length), w.cell? ⟨g, off + i, none⟩ = some (.string l[i])
theorem Strs.below {w w' : World} {B : Nat} {A : Option Addr} {l : List ByteArray} (h : Strs w B A l) (hb : Below B w w') : Strs w' B A l := fun hn => by
  obtain ⟨g, off, e, hlt, hc⟩ := h hn
  exact ⟨g, off, e, hlt, fun i hi => (hb.cell (p := ⟨g, off + i, none⟩) hlt).trans (hc i hi)⟩
theorem Strs.more {w : World} {B B' : Nat} {A : Option Addr} {l : List ByteArray} (h : Strs w B A l) (hB : B ≤ B') : Strs w B' A l := fun hn => by
  obtain ⟨g, off, e, hlt, hc⟩ := h hn
  exact ⟨g, off, e, by omega, hc⟩
theorem str_eq (x y : ByteArray) : (x.toList = y.toList) ↔ x = y := by
  rw [ByteArray.toList_eq, ByteArray.toList_eq]
  constructor
  · intro h
    obtain ⟨⟨l⟩⟩ := x
    obtain ⟨⟨m⟩⟩ := y
    simp at h
    rw [h]
  · intro h; rw [h]

/-- What is left of two lists without what is the same at the beginning and at the end. -/
structure Mid (a b : List ByteArray) (p x y : Nat) : Prop where
  px : p ≤ x
  py : p ≤ y
  xa : x ≤ a.length
  yb : y ≤ b.length
  same : a.length - x = b.length - y
  fore : ∀ k, k < p → Dl.At a b k k
  hind : ∀ k, k < a.length - x → Dl.At a b (x + k) (y + k)
  first : ¬ Dl.At a b p p
  last : p < x → p < y → ¬ Dl.At a b (x - 1) (y - 1)

set_option maxHeartbeats 4000000 in
set_option maxRecDepth 100000 in
theorem middle_any (a b : List ByteArray) (A B : Option Addr) (ca cb : Nat) (w : World) (hA : Strs w w.heap.size A a) (hB : Strs w w.heap.size B b) (la : a.length ≤ 100000) (lb : b.length ≤ 100000) (_hca : a.length ≤ ca) (_hcb : b.length ≤ cb) :
    Calls Tryz.prog 40 #[.slice A a.length ca, .slice B b.length cb] w fun e w' => ∃ p x y : Nat, e = .returned (.agg #[.int .i64 p, .int .i64 p, .int .i64 x, .int .i64 y]) ∧ (Mid a b p x y) ∧ Below w.heap.size w w' := by
  have HA := Lib.hid hA
  have HB := Lib.hid hB
  clear hA hB
  go_enter Tryz.func40, Tryz.ntmps40
  go_wp2_with fail
  go_loopg [5] (a.length + 1) (fun kx v wr => ∃ p : Nat, v = .int .i64 p ∧ p ≤ a.length ∧ p ≤ b.length ∧ a.length - p ≤ kx ∧ Hid (∀ k, k < p → Dl.At a b k k) ∧ Hid (RowB wr w.heap.size 57 #[.int .i64 0, .int .i64 0, .int .i64 0, .int .i64 0]) ∧ Hid (Below w.heap.size w wr))
  case atStart => exact ⟨0, rfl, by omega, by omega, by omega, fun k h => by omega, RowB.new w 57 _, bel1 _ _⟩
  case round =>
    obtain ⟨p, rfl, hpa, hpb, hkx, HF, R4, HW⟩ := hrel
    obtain ⟨z, hz⟩ : ∃ z : Bool, (z = true ↔ Dl.At a b p p) := by
      by_cases h : Dl.At a b p p
      · exact ⟨true, by simp [h]⟩
      · exact ⟨false, by simp [h]⟩
    have HZ := Lib.hid hz
    clear hz
    go_upto_region 2 with fail
    go_cut [27] from 7 to 29 (fun s27 wx => s27 = .bool z ∧ ∃ nq, wx = wr.drewN nq)
    case first =>
      by_cases h1 : p < a.length
      · by_cases h2 : p < b.length
        · obtain ⟨ga, oa, ea, lga, hca1⟩ := (HA.out.below HW.out) (by omega)
          obtain ⟨gb, ob, eb, lgb, hcb1⟩ := (HB.out.below HW.out) (by omega)
          have ka := hca1 p h1
          have kb := hcb1 p h2
          subst ea eb
          clear hca1 hcb1
          have hzz : z = decide (a[p].toList = b[p].toList) := by
            rw [Bool.eq_iff_iff, HZ.out, decide_eq_true_iff, str_eq]
            constructor
            · rintro ⟨x, g1, g2⟩
              rw [List.getElem?_eq_getElem h1] at g1
              rw [List.getElem?_eq_getElem h2] at g2
              injection g1 with g1
              injection g2 with g2
              rw [g1, g2]
            · intro h
              exact ⟨a[p], List.getElem?_eq_getElem h1, by rw [h]; exact List.getElem?_eq_getElem h2⟩
          subst hzz
          go_quiet (fail)
          go_wp2_with fail
          go_meet
          first
            | exact ⟨rfl, _, rfl⟩
            | exact ⟨congrArg Value.bool (by rw [Bool.eq_iff_iff]; simp), _, rfl⟩
        · have d3 : decide ((p : Int) < (b.length : Int)) = false := by simpa using h2
          have d4 : decide (p < b.length) = false := by simpa using h2
          obtain rfl : z = false := by
            cases z
            · rfl
            · obtain ⟨x, _, g2⟩ := HZ.out.1 rfl
              exact absurd (List.getElem?_eq_some_iff.1 g2).1 h2
          go_quiet (fail)
          go_wp2_with fail
          go_meet
          exact ⟨rfl, _, rfl⟩
      · have d3 : decide ((p : Int) < (a.length : Int)) = false := by simpa using h1
        have d4 : decide (p < a.length) = false := by simpa using h1
        obtain rfl : z = false := by
          cases z
          · rfl
          · obtain ⟨x, g2, _⟩ := HZ.out.1 rfl
            exact absurd (List.getElem?_eq_some_iff.1 g2).1 h1
        go_quiet (fail)
        go_wp2_with fail
        go_meet
        exact ⟨rfl, _, rfl⟩
    case rest =>
    obtain ⟨rfl, nq, rfl⟩ := hcut
    cases z
    · have HFi : Hid (¬ Dl.At a b p p) := fun h => by have := HZ.out.2 h; cases this
      have R4d : Hid (RowB (wr.drewN nq) w.heap.size 57 #[.int .i64 0, .int .i64 0, .int .i64 0, .int .i64 0]) := R4.out
      have HWd := Lib.hid (below_drewN HW.out nq)
      generalize wr.drewN nq = V at *
      have RA := Lib.hid (RowB.new V 55 #[.int .i64 a.length, .int .i64 b.length])
      have R4a := Lib.hid (R4d.out.alloc (.cells #[.int .i64 a.length, .int .i64 b.length] 55))
      have HBA := Lib.hid (HWd.out.alloc HWd.out.size (.cells #[.int .i64 a.length, .int .i64 b.length] 55))
      have hl4 := R4d.out.lt
      clear HZ R4 HW
      go_wp2_with fail
      go_loopg [35] (a.length + 1) (fun kx (_ : Value) wr2 => ∃ x y : Nat, p ≤ x ∧ p ≤ y ∧ x ≤ a.length ∧ y ≤ b.length ∧ a.length - x = b.length - y ∧ x ≤ kx ∧ Hid (∀ k, k < a.length - x → Dl.At a b (x + k) (y + k)) ∧ Hid (RowB wr2 V.heap.size 55 #[.int .i64 x, .int .i64 y]) ∧ Hid (RowB wr2 w.heap.size 57 #[.int .i64 0, .int .i64 0, .int .i64 0, .int .i64 0]) ∧ Hid (Below w.heap.size w wr2))
      case atStart => exact ⟨a.length, b.length, hpa, hpb, Nat.le_refl _, Nat.le_refl _, by omega, by omega, fun k h => by omega, RA.out, R4a.out, HBA.out⟩
      case round =>
        obtain ⟨x, y, hpx, hpy, hxa, hyb, hsm, hkx2, HH, R6, R4, HW2⟩ := hrel
        obtain ⟨z, hz⟩ : ∃ z : Bool, (z = true ↔ (p < x ∧ p < y ∧ Dl.At a b (x - 1) (y - 1))) := by
          by_cases h : p < x ∧ p < y ∧ Dl.At a b (x - 1) (y - 1)
          · exact ⟨true, by simp [h]⟩
          · exact ⟨false, by simp [h]⟩
        have HZ := Lib.hid hz
        clear hz
        have r6 := R6.out.cell
        go_upto_region 5 with fail
        go_cut [59] from 35 to 66 (fun s59 wx => s59 = .bool z ∧ ∃ nq2, wx = wr.drewN nq2)
        case first =>
          by_cases h1 : p < x
          · by_cases h2 : p < y
            · obtain ⟨ga, oa, ea, lga, hca1⟩ := (HA.out.below HW2.out) (by omega)
              obtain ⟨gb, ob, eb, lgb, hcb1⟩ := (HB.out.below HW2.out) (by omega)
              have ka := hca1 (x - 1) (by omega)
              have kb := hcb1 (y - 1) (by omega)
              subst ea eb
              clear hca1 hcb1
              have hzz : z = decide (a[x - 1].toList = b[y - 1].toList) := by
                rw [Bool.eq_iff_iff, HZ.out, decide_eq_true_iff, str_eq]
                constructor
                · rintro ⟨_, _, x', g1, g2⟩
                  rw [List.getElem?_eq_getElem (by omega)] at g1
                  rw [List.getElem?_eq_getElem (by omega)] at g2
                  injection g1 with g1
                  injection g2 with g2
                  rw [g1, g2]
                · intro h
                  exact ⟨h1, h2, a[x - 1], List.getElem?_eq_getElem (by omega), by rw [h]; exact List.getElem?_eq_getElem (by omega)⟩
              have tx : ((x : Int) - 1).toNat = x - 1 := by omega
              have ty : ((y : Int) - 1).toNat = y - 1 := by omega
              have wx1 : IntKind.i64.wrap ((x : Int) - 1) = (x : Int) - 1 := by rw [IntKind.wrap_i64]; omega
              have wy1 : IntKind.i64.wrap ((y : Int) - 1) = (y : Int) - 1 := by rw [IntKind.wrap_i64]; omega
              have bx0 : (0 : Int) ≤ (x : Int) - 1 := by omega
              have by0 : (0 : Int) ≤ (y : Int) - 1 := by omega
              have bx1 : (x : Int) - 1 < (a.length : Int) := by omega
              have by1 : (y : Int) - 1 < (b.length : Int) := by omega
              have h1i : (p : Int) < (x : Int) := by omega
              have h2i : (p : Int) < (y : Int) := by omega
              subst hzz
              go_quiet (fail)
              go_wp2_with fail
              go_meet
              first
                | exact ⟨rfl, _, rfl⟩
                | exact ⟨congrArg Value.bool (by rw [Bool.eq_iff_iff]; simp), _, rfl⟩
            · have d3 : decide ((p : Int) < (y : Int)) = false := by simpa using h2
              have d4 : decide (p < y) = false := by simpa using h2
              obtain rfl : z = false := by
                cases z
                · rfl
                · exact absurd (HZ.out.1 rfl).2.1 h2
              go_quiet (fail)
              go_wp2_with fail
              go_meet
              exact ⟨rfl, _, rfl⟩
          · have d3 : decide ((p : Int) < (x : Int)) = false := by simpa using h1
            have d4 : decide (p < x) = false := by simpa using h1
            obtain rfl : z = false := by
              cases z
              · rfl
              · exact absurd (HZ.out.1 rfl).1 h1
            go_quiet (fail)
            go_wp2_with fail
            go_meet
            exact ⟨rfl, _, rfl⟩
        case rest =>
        obtain ⟨rfl, nq2, rfl⟩ := hcut
        have r4 := R4.out.cell
        have r4f := R4.out.thaw
        have r6f := R6.out.thaw
        have hne : V.heap.size ≠ w.heap.size := by omega
        cases z
        · have HM : Hid (Mid a b p x y) := ⟨hpx, hpy, hxa, hyb, hsm, HF.out, HH.out, HFi.out, fun g1 g2 g3 => by have := HZ.out.2 ⟨g1, g2, g3⟩; cases this⟩
          go_wp2
          refine bodyPost_ret ?_ rfl ⟨p, x, y, rfl, HM.out, ?_⟩
          · simp [results, Tryz.results40, go_sem, r4]
          · refine Below.setCell (Below.setCell (Below.setCell (Below.setCell (below_drewN HW2.out nq2) ?_ _) ?_ _) ?_ _) ?_ _ <;> simp
        · obtain ⟨g1, g2, g3⟩ := HZ.out.1 rfl
          have HH3 : Hid (∀ k, k < a.length - (x - 1) → Dl.At a b (x - 1 + k) (y - 1 + k)) := fun k hk => by
            rcases k with _ | k
            · exact g3
            · have := HH.out k (by omega)
              rwa [show x + k = x - 1 + (k + 1) by omega, show y + k = y - 1 + (k + 1) by omega] at this
          have ex : ((x - 1 : Nat) : Int) = (x : Int) - 1 := by omega
          have ey : ((y - 1 : Nat) : Int) = (y : Int) - 1 := by omega
          have N6 : Hid (RowB (((wr.drewN nq2).setCell ⟨V.heap.size, 0, none⟩ (.int .i64 ((x : Int) - 1))).setCell ⟨V.heap.size, 1, none⟩ (.int .i64 ((y : Int) - 1))) V.heap.size 55 #[.int .i64 ((x - 1 : Nat) : Int), .int .i64 ((y - 1 : Nat) : Int)]) := by
            rw [ex, ey]
            exact (RowB.put (w := wr.drewN nq2) R6.out 0 (.int .i64 ((x : Int) - 1))).put 1 (.int .i64 ((y : Int) - 1))
          have N4 : Hid (RowB (((wr.drewN nq2).setCell ⟨V.heap.size, 0, none⟩ (.int .i64 ((x : Int) - 1))).setCell ⟨V.heap.size, 1, none⟩ (.int .i64 ((y : Int) - 1))) w.heap.size 57 #[.int .i64 0, .int .i64 0, .int .i64 0, .int .i64 0]) :=
            (RowB.far (w := wr.drewN nq2) R4.out (p := ⟨V.heap.size, 0, none⟩) (by simp; omega) (.int .i64 ((x : Int) - 1))).far (p := ⟨V.heap.size, 1, none⟩) (by simp; omega) (.int .i64 ((y : Int) - 1))
          have NB := Lib.hid (((below_drewN HW2.out nq2).setCell (p := ⟨V.heap.size, 0, none⟩) (by simp; omega) (.int .i64 ((x : Int) - 1))).setCell (p := ⟨V.heap.size, 1, none⟩) (by simp; omega) (.int .i64 ((y : Int) - 1)))
          clear g3 ex ey
          go_wp2_with fail
          go_roundg (x - 1)
          case measure => omega
          case rel => exact ⟨x - 1, y - 1, by omega, by omega, by omega, by omega, by omega, Nat.le_refl _, HH3.out, N6.out, N4.out, NB.out⟩
    · have HF2 : Hid (∀ k, k < p + 1 → Dl.At a b k k) := fun k hk => by
        rcases Nat.lt_or_ge k p with h | h
        · exact HF.out k h
        · obtain rfl : k = p := by omega
          exact HZ.out.1 rfl
      have hlt : p < a.length ∧ p < b.length := by
        obtain ⟨x, g1, g2⟩ := HZ.out.1 rfl
        exact ⟨(List.getElem?_eq_some_iff.1 g1).1, (List.getElem?_eq_some_iff.1 g2).1⟩
      go_wp2_with fail
      go_roundg (a.length - (p + 1))
      case measure => omega
      case rel => exact ⟨p + 1, by go_num, by omega, by omega, by omega, HF2.out, R4.out, below_drewN HW.out _⟩
end Go.Proofs.YthbmnnnlkgbieaaGreatDoor
/- Contracts: the same units of both lists have the same number. -/
namespace Go.Proofs.YthbmnnnlkgbieaaGreatDoor
open Go.RowKit Go.Op Go.Maps

theorem law9 : Keyed Tryz.prog 9 := string_keyed Tryz.underlying9
theorem zero3 (w : World) : (zeroValue 3).run Tryz.prog w = .ok (.int .i64 0) w := by kernel_rfl
theorem info3 : (Tryz.prog.info? 3).map (fun i => (i.zero, i.size, i.bytes)) = some (some (.int .i64 0), 1, 8) := by kernel_rfl
abbrev kl (s : List UInt8) : Lit := .string s
theorem kl_inj {s t : List UInt8} (h : kl s = kl t) : s = t := by
  injection h
abbrev byt (s : ByteArray) : List UInt8 := s.data.toList
theorem byt_inj {s t : ByteArray} (h : byt s = byt t) : s = t := by
  obtain ⟨⟨l⟩⟩ := s
  obtain ⟨⟨m⟩⟩ := t
  simp [byt] at h
  rw [h]

/-- The datum of a map from the units K to their places. -/
structure KD (D : DataW Unit) (K : List (List UInt8)) : Prop where
  isMap : Maps.Tidy D
  has : ∀ s, Maps.has D (kl s) = decide (s ∈ K)
  at_ : ∀ s, s ∈ K → D.atKey (kl s) (.lit (.int .i64 0)) = .lit (.int .i64 (K.idxOf s))
  size : Maps.size D = K.length
theorem KD.empty : KD (.map []) [] := ⟨Maps.tidy_empty, fun s => by simp [Maps.has_eq], fun s h => by simp at h, rfl⟩
theorem KD.put {D : DataW Unit} {K : List (List UInt8)} (h : KD D K) {s : List UInt8} (hs : s ∉ K) : KD (D.put (kl s) (.lit (.int .i64 K.length))) (K ++ [s]) := by
  have hk : WideAt.IsKeyLit (kl s) := trivial
  refine ⟨h.isMap.put hk _, fun t => ?_, fun t ht => ?_, ?_⟩
  · by_cases e : t = s
    · subst e
      rw [Maps.has_put_same h.isMap.isMap hk]
      simp
    · rw [Maps.has_put_other (fun x => e (kl_inj x)), h.has]
      simp [e]
  · by_cases e : t = s
    · subst e
      rw [Maps.atKey_put_same h.isMap.isMap hk, List.idxOf_append, if_neg hs]
      simp
    · rw [Maps.atKey_put_other (fun x => e (kl_inj x))]
      have hm : t ∈ K := by simpa [e] using ht
      rw [h.at_ t hm, List.idxOf_append, if_pos hm]
  · rw [Maps.size_put h.isMap, h.has, if_neg (by simpa using hs), h.size, List.length_append]
    rfl
theorem idxOf_grow {K M : List (List UInt8)} {s : List UInt8} (hs : s ∈ K) : (K ++ M).idxOf s = K.idxOf s := by
  rw [List.idxOf_append, if_pos hs]
theorem own_heap {w w' : World} {b n : Nat} {D : DataW Unit} (h : w.ownsMap Tryz.prog 9 (plainElem Tryz.prog 3) b n D) (e : w'.heap[b]? = w.heap[b]?) : w'.ownsMap Tryz.prog 9 (plainElem Tryz.prog 3) b n D := by
  obtain ⟨es, c, hb, r⟩ := h
  exact ⟨es, c, e.trans hb, r⟩
theorem cell_of_heap {w w' : World} {g o : Nat} (h : w'.heap[g]? = w.heap[g]?) : w'.cell? ⟨g, o, none⟩ = w.cell? ⟨g, o, none⟩ := by
  unfold World.cell?
  simp only [h]
theorem gm_refl (w : World) (r : Option Nat) : w.grownBy w r := ⟨rfl, rfl, rfl, Nat.le_refl _, fun _ _ _ => rfl⟩
theorem gm_trans {w w1 w2 : World} {r : Option Nat} (h : w.grownBy w1 r) (h' : w1.grownBy w2 r) : w.grownBy w2 r :=
  ⟨h'.os.trans h.os, h'.tape.trans h.tape, h'.output.trans h.output, Nat.le_trans h.size h'.size, fun k hk hne => (h'.block k (Nat.lt_of_lt_of_le hk h.size) hne).trans (h.block k hk hne)⟩
theorem gm_alloc {w w1 : World} {r : Option Nat} (h : w.grownBy w1 r) (o : Obj) : w.grownBy (w1.alloc o) r :=
  ⟨h.os, h.tape, h.output, by have := h.size; simp; omega, fun k hk hne => (Below.heap_alloc w1 o k (Nat.lt_of_lt_of_le hk h.size)).trans (h.block k hk hne)⟩
theorem gm_set {w w1 : World} {r : Option Nat} (h : w.grownBy w1 r) {g : Nat} (hg : w.heap.size ≤ g) (i : Nat) (u : Value) : w.grownBy (w1.setCell ⟨g, i, none⟩ u) r := by
  have hb : Below w1.heap.size w1 w1 := Below.refl _ _
  refine ⟨?_, ?_, ?_, by have := h.size; simpa using this, fun k hk hne => (Below.heap_setCell w1 ⟨g, i, none⟩ u k (by show k ≠ g; omega)).trans (h.block k hk hne)⟩
  · have := (Below.setCell (B := g) (Below.refl g w1) (p := ⟨g, i, none⟩) (Nat.le_refl _) u).os; exact this.trans h.os
  · have := (Below.setCell (B := g) (Below.refl g w1) (p := ⟨g, i, none⟩) (Nat.le_refl _) u).tape; exact this.trans h.tape
  · have := (Below.setCell (B := g) (Below.refl g w1) (p := ⟨g, i, none⟩) (Nat.le_refl _) u).output; exact this.trans h.output

/-- What numbering a list comes to. -/
def NumP (l : List ByteArray) (K : List (List UInt8)) (n vk mb : Nat) (w : World) (e : Ending) (w' : World) : Prop :=
  ∃ (M : List (List UInt8)) (g : Nat) (Dm' : DataW Unit), e = .returned (.slice (some ⟨g, 0, none⟩) l.length l.length) ∧ w.heap.size ≤ g ∧ g < w'.heap.size ∧
      (∀ i (h : i < l.length), w'.cell? ⟨g, i, none⟩ = some (.int .i64 ((K ++ M).idxOf (byt l[i])))) ∧ (∀ s ∈ l, byt s ∈ K ++ M) ∧ (K ++ M).length ≤ n + l.length ∧
      RowB w' vk 104 #[.map (some mb)] ∧ w'.ownsMap Tryz.prog 9 (plainElem Tryz.prog 3) mb (n + l.length) Dm' ∧ KD Dm' (K ++ M) ∧ w.grownBy w' (some mb)

set_option maxHeartbeats 8000000 in
set_option maxRecDepth 100000 in
theorem num_any (l : List ByteArray) (A : Option Addr) (cap vk mb n : Nat) (K : List (List UInt8)) (Dm : DataW Unit) (w : World) (hA : Strs w w.heap.size A l) (_hcap : l.length ≤ cap) (hl : l.length ≤ 100000) (hn : n ≤ 100000) (hKn : K.length ≤ n)
    (hs : ∀ s ∈ l, s.size ≤ maxLen) (hv : RowB w vk 104 #[.map (some mb)]) (hO : w.ownsMap Tryz.prog 9 (plainElem Tryz.prog 3) mb n Dm) (hK : KD Dm K) (hne : ∀ g, (∃ o, A = some ⟨g, o, none⟩) → g ≠ mb) :
    Calls Tryz.prog 54 #[.slice A l.length cap, .pointer (some ⟨vk, 0, none⟩)] w fun e w' => NumP l K n vk mb w e w' := by
  obtain ⟨i0, hi0, hz0, hz1, hz2⟩ := info_parts info3
  have hmk : ∀ u : World, (Instr.makeSlice 76 (.int .i64 (l.length : Int)) (.int .i64 (l.length : Int))).run Tryz.prog u = .ok (.slice (some ⟨u.heap.size, 0, none⟩) l.length l.length) (u.alloc (.cells (madeCells (Value.int .i64 0).cells l.length) 3)) := fun u => by
    have := run_make (P := Tryz.prog) u 76 3 i0 _ Tryz.underlying76 hi0 hz0 .i64 .i64 l.length l.length (by omega) (Int.le_refl _) (by rw [hz2]; omega) (by omega)
    simpa [hz1] using this
  have hRs := size_madeCells (Value.int .i64 0).cells l.length
  generalize madeCells (Value.int .i64 0).cells l.length = R0 at *
  have HA := Lib.hid hA
  have HV := Lib.hid hv
  have HO := Lib.hid hO
  have HK := Lib.hid hK
  have HS := Lib.hid hs
  have HNE := Lib.hid hne
  have hvk := hv.lt
  have hmb : mb < w.heap.size := by
    obtain ⟨es, c, hb, _⟩ := hO
    rcases Nat.lt_or_ge mb w.heap.size with h | h
    · exact h
    · rw [Array.getElem?_eq_none h] at hb; cases hb
  clear hz0 hz1 hz2 hi0 hA hv hO hK hs hne
  go_enter Tryz.func54, Tryz.ntmps54
  go_wp2_with fail
  have HR0 := Lib.hid (RowB.new w 3 R0)
  have HV0 := Lib.hid (HV.out.alloc (.cells R0 3))
  have HO0 := Lib.hid (own_heap HO.out (Below.heap_alloc w (.cells R0 3) mb hmb))
  have HG0 := Lib.hid (gm_alloc (gm_refl w (some mb)) (.cells R0 3))
  go_loopg [14] (l.length + 1) (fun kx v wr => ∃ (k : Nat) (M : List (List UInt8)) (Dm' : DataW Unit) (R : Array Value), v = .int .i64 k ∧ k ≤ l.length ∧ l.length - k ≤ kx ∧ R.size = l.length ∧ (K ++ M).length ≤ n + k ∧
    Hid (∀ i (h : i < l.length), i < k → byt l[i] ∈ K ++ M ∧ R[i]? = some (.int .i64 ((K ++ M).idxOf (byt l[i])))) ∧ Hid (RowB wr w.heap.size 3 R) ∧ Hid (RowB wr vk 104 #[.map (some mb)]) ∧ wr.ownsMap Tryz.prog 9 (plainElem Tryz.prog 3) mb (n + k) Dm' ∧ Hid (KD Dm' (K ++ M)) ∧ Hid (w.grownBy wr (some mb)))
  case atStart => exact ⟨0, [], Dm, R0, rfl, by omega, by omega, hRs, by simpa using hKn, fun i h h2 => by omega, HR0.out, HV0.out, HO0.out, by rw [List.append_nil]; exact HK.out, HG0.out⟩
  case round =>
    obtain ⟨k, M, Dk, R, rfl, hk, hkx, hRz, hKM, HF, HR, HVr, hown, HKD, HG⟩ := hrel
    by_cases hlt : k < l.length
    · obtain ⟨ga, oa, ea, lga, hca1⟩ := HA.out (by omega)
      have hgm := HNE.out ga ⟨oa, by rw [ea]⟩
      have ka : wr.cell? ⟨ga, oa + k, none⟩ = some (.string l[k]) := by
        have h1 := hca1 k hlt
        rw [← h1]
        exact cell_of_heap (HG.out.block ga lga (by intro h; injection h with h; exact hgm h))
      subst ea
      have hkey : keyOf Tryz.prog 9 (.string l[k]) = some (kl (byt l[k])) := WideMaps.keyOf_string_mk Tryz.underlying9 (HS.out _ (List.getElem_mem hlt))
      have hvc := HVr.out.cell
      by_cases hm : byt l[k] ∈ K ++ M
      · have hhas : Maps.has Dk (kl (byt l[k])) = true := by rw [HKD.out.has]; simpa using hm
        have hat := HKD.out.at_ _ hm
        have HM := Lib.hid hm
        clear hm hca1 hgm
        obtain ⟨x, hx⟩ : ∃ x, x = (K ++ M).idxOf (byt l[k]) := ⟨_, rfl⟩
        rw [← hx] at hat
        have HX := Lib.hid hx
        have hRk := HR.out.cell k
        have hRf := HR.out.thaw
        rw [Array.getElem?_eq_getElem (by omega)] at hRk
        have HAT := Lib.hid hat
        have hvw : vk ≠ w.heap.size := by omega
        have hmw : mb ≠ w.heap.size := by omega
        clear hx hat
        go_wp2_with (first
          | (at_lookup; refine wpList_lookup_own_ok_int _ rfl _ _ 104 rfl 9 3 .i64 law9 Tryz.underlying104 Tryz.underlying3 (zero3 _) mb (n + k) Dk rfl hown _ _ rfl hkey ?_; intro c hat2 hwc)
          | go_in)
        have hcx : c = x := by
          have := hat2.symm.trans HAT.out
          simpa using this
        subst hcx
        have HF2 : Hid (∀ i (h : i < l.length), i < k + 1 → byt l[i] ∈ K ++ M ∧ (R.setIfInBounds k (.int .i64 x))[i]? = some (.int .i64 ((K ++ M).idxOf (byt l[i])))) := fun i h h2 => by
          by_cases e : i = k
          · subst e
            refine ⟨HM.out, ?_⟩
            rw [← HX.out, Array.getElem?_setIfInBounds, if_pos rfl, if_pos (by omega)]
          · have := HF.out i h (by omega)
            refine ⟨this.1, ?_⟩
            rw [Array.getElem?_setIfInBounds, if_neg (by omega)]
            exact this.2
        have N1 := Lib.hid (HR.out.put k (.int .i64 x))
        have N2 := Lib.hid (HVr.out.far (p := ⟨w.heap.size, k, none⟩) hvw (.int .i64 x))
        have N3 := Lib.hid (own_heap hown (Below.heap_setCell wr ⟨w.heap.size, k, none⟩ (.int .i64 x) mb hmw))
        have N4 := Lib.hid (gm_set HG.out (Nat.le_refl _) k (.int .i64 x))
        go_roundg (l.length - (k + 1))
        case measure => omega
        case rel => exact ⟨k + 1, M, Dk, _, by go_num, by omega, by omega, by simpa using hRz, by omega, HF2.out, N1.out, N2.out, N3.out.mono (by omega), HKD.out, N4.out⟩
      · have hhas : Maps.has Dk (kl (byt l[k])) = false := by rw [HKD.out.has]; simpa using hm
        have hsz := HKD.out.size
        have HKD2 := Lib.hid (HKD.out.put hm)
        obtain ⟨x, hx⟩ : ∃ x : Nat, x = (K ++ M).length := ⟨_, rfl⟩
        rw [← hx] at HKD2 hsz hKM
        have HX := Lib.hid hx
        have hRk := HR.out.cell k
        have hRf := HR.out.thaw
        rw [Array.getElem?_eq_getElem (by omega)] at hRk
        have hvw : vk ≠ w.heap.size := by omega
        have hmw : mb ≠ w.heap.size := by omega
        have hvm : vk ≠ mb := fun e => by
          obtain ⟨es, c, hb, _⟩ := hown
          have := HVr.out
          unfold RowB at this
          rw [e, hb] at this
          cases this
        have hnm : some w.heap.size ≠ some mb := by intro h; injection h with h; omega
        have hRe : R[k]? = some R[k] := Array.getElem?_eq_getElem (by omega)
        have wf : (Lit.int .i64 ((x : Nat) : Int)).wf = true := WalkArith.wf_i64 (by omega)
        have HM := Lib.hid hm
        clear hx hm hca1 hgm
        go_wp2_with (first
          | (at_lookup; refine wpList_lookup_own_ok_int _ rfl _ _ 104 rfl 9 3 .i64 law9 Tryz.underlying104 Tryz.underlying3 (zero3 _) mb (n + k) Dk rfl hown _ _ rfl hkey ?_; intro c hat2 hwc)
          | (at_len; refine wpList_len_own _ rfl _ 104 rfl 9 3 Tryz.underlying104 _ mb (n + k) Dk rfl hown ?_; rw [hsz])
          | (at_mapUpdate; refine wpList_mapUpdate_own _ rfl _ _ _ 104 rfl 9 3 law9 Tryz.underlying104 _ mb (n + k) Dk rfl hown (by unfold maxLen; omega) _ _ _ rfl rfl hkey _ [] (plainElem_int Tryz.underlying3 wf) ?_; intro w1 hown1 hgrow1; have R1 := Lib.hid (HR.out.grown hgrow1 hnm); have hRk1 := R1.out.cell k; have hRf1 := R1.out.thaw; rw [hRe] at hRk1)
          | go_in)
        have V1 := Lib.hid (HVr.out.grown hgrow1 (by intro h; injection h with h; omega))
        have HF2 : Hid (∀ i (h : i < l.length), i < k + 1 → byt l[i] ∈ K ++ (M ++ [byt l[k]]) ∧ (R.setIfInBounds k (.int .i64 x))[i]? = some (.int .i64 ((K ++ (M ++ [byt l[k]])).idxOf (byt l[i])))) := fun i h h2 => by
          rw [← List.append_assoc]
          by_cases e : i = k
          · subst e
            refine ⟨by simp, ?_⟩
            rw [Array.getElem?_setIfInBounds, if_pos rfl, if_pos (by omega), List.idxOf_append, if_neg HM.out, HX.out]
            simp
          · have := HF.out i h (by omega)
            refine ⟨List.mem_append.2 (.inl this.1), ?_⟩
            rw [Array.getElem?_setIfInBounds, if_neg (by omega), idxOf_grow this.1]
            exact this.2
        have N1 := Lib.hid (R1.out.put k (.int .i64 x))
        have N2 := Lib.hid (V1.out.far (p := ⟨w.heap.size, k, none⟩) hvw (.int .i64 x))
        have N3 := Lib.hid (own_heap hown1 (Below.heap_setCell w1 ⟨w.heap.size, k, none⟩ (.int .i64 x) mb hmw))
        have N4 := Lib.hid (gm_set (gm_trans HG.out hgrow1) (Nat.le_refl _) k (.int .i64 x))
        have hlen2 : (K ++ (M ++ [byt l[k]])).length ≤ n + (k + 1) := by
          rw [← List.append_assoc, List.length_append, ← HX.out]; simp; omega
        have HKD3 : Hid (KD (Dk.put (kl (byt l[k])) (.lit (.int .i64 x))) (K ++ (M ++ [byt l[k]]))) := by
          rw [← List.append_assoc]; exact HKD2.out
        clear hown1 hgrow1 hown
        go_roundg (l.length - (k + 1))
        case measure => omega
        case rel => exact ⟨k + 1, M ++ [byt l[k]], _, _, by go_num, by omega, by omega, by simpa using hRz, hlen2, HF2.out, N1.out, N2.out, N3.out, HKD3.out, N4.out⟩
    · obtain rfl : k = l.length := by omega
      have hge : ¬ (l.length : Int) < (l.length : Int) := by omega
      have HO2 := Lib.hid hown
      clear hown
      go_wp2
      go_ret
      refine ⟨M, w.heap.size, Dk, rfl, Nat.le_refl _, HR.out.lt, fun i h => ?_, fun s hs => ?_, hKM, HVr.out, HO2.out, HKD.out, HG.out⟩
      · rw [HR.out.cell i]; exact (HF.out i h h).2
      · obtain ⟨i, h, rfl⟩ := List.getElem_of_mem hs
        exact (HF.out i h h).1
end Go.Proofs.YthbmnnnlkgbieaaGreatDoor
/- Contracts: both lists are numbered alike. -/
namespace Go.Proofs.YthbmnnnlkgbieaaGreatDoor
open Go.RowKit Go.Op Go.Maps

/-- The numbers of units. -/
def numsOf (T : List (List UInt8)) (l : List ByteArray) : List Int := l.map fun x => (T.idxOf (byt x) : Int)
theorem below_of_gm {w w' : World} {mb : Nat} {B : Nat} (h : w.grownBy w' (some mb)) (hB : B ≤ w.heap.size) (hmb : B ≤ mb) : Below B w w' :=
  ⟨h.os, h.tape, h.output, h.size, fun k hk => h.block k (by omega) (by intro e; injection e with e; omega)⟩

/-- What numbering both comes to. -/
def NumsP (a b : List ByteArray) (w : World) (e : Ending) (w' : World) : Prop :=
  ∃ (T : List (List UInt8)) (ga gb : Nat), e = .returned (.tuple #[.slice (some ⟨ga, 0, none⟩) a.length a.length, .slice (some ⟨gb, 0, none⟩) b.length b.length]) ∧
    Ints w' w'.heap.size (some ⟨ga, 0, none⟩) (numsOf T a) ∧ Ints w' w'.heap.size (some ⟨gb, 0, none⟩) (numsOf T b) ∧ (∀ x ∈ a, byt x ∈ T) ∧ (∀ x ∈ b, byt x ∈ T) ∧ Below w.heap.size w w'

set_option maxHeartbeats 8000000 in
set_option maxRecDepth 100000 in
theorem numbers_any (a b : List ByteArray) (A B : Option Addr) (ca cb : Nat) (w : World) (hA : Strs w w.heap.size A a) (hB : Strs w w.heap.size B b) (la : a.length ≤ 50000) (lb : b.length ≤ 50000) (hca : a.length ≤ ca) (hcb : b.length ≤ cb)
    (hsa : ∀ s ∈ a, s.size ≤ maxLen) (hsb : ∀ s ∈ b, s.size ≤ maxLen) (hpa : 0 < a.length) (hpb : 0 < b.length) :
    Calls Tryz.prog 41 #[.slice A a.length ca, .slice B b.length cb] w fun e w' => NumsP a b w e w' := by
  have hmm := @run_makeMap Tryz.prog
  obtain ⟨qa, oa, ea, lga, _⟩ := hA hpa
  obtain ⟨qb, ob, eb, lgb, _⟩ := hB hpb
  have HA := Lib.hid hA
  have HB := Lib.hid hB
  have HSA := Lib.hid hsa
  have HSB := Lib.hid hsb
  have HEA : Hid (∀ g, (∃ o, A = some ⟨g, o, none⟩) → g ≠ w.heap.size) := fun g ⟨o, h⟩ => by rw [ea] at h; injection h with h; injection h with h1 _ _; omega
  have HEB : Hid (∀ g, (∃ o, B = some ⟨g, o, none⟩) → g ≠ w.heap.size) := fun g ⟨o, h⟩ => by rw [eb] at h; injection h with h; injection h with h1 _ _; omega
  clear hA hB hsa hsb ea eb
  have hW1 := Lib.hid (bel2 w (.map #[] 0) (.cells #[.map (some w.heap.size)] 104))
  have hV1 : Hid (RowB ((w.alloc (.map #[] 0)).alloc (.cells #[.map (some w.heap.size)] 104)) (w.heap.size + 1) 104 #[.map (some w.heap.size)]) := (new2 w (.map #[] 0) (.cells #[.map (some w.heap.size)] 104)).2
  have hO1 : Hid (((w.alloc (.map #[] 0)).alloc (.cells #[.map (some w.heap.size)] 104)).ownsMap Tryz.prog 9 (plainElem Tryz.prog 3) w.heap.size 0 (.map [] : DataW Unit)) :=
    own_heap (World.ownsMap_made w _ _ _) (Below.heap_alloc (w.alloc (.map #[] 0)) _ w.heap.size (by simp))
  have hS1 : ((w.alloc (.map #[] 0)).alloc (.cells #[.map (some w.heap.size)] 104)).heap.size = w.heap.size + 2 := by simp
  go_enter Tryz.func41, Tryz.ntmps41
  go_wp2_with fail
  generalize (w.alloc (.map #[] 0)).alloc (.cells #[.map (some w.heap.size)] 104) = W1 at *
  refine (num_any a A ca (w.heap.size + 1) w.heap.size 0 [] (.map []) W1 ((HA.out.below hW1.out).more hW1.out.size) hca (by omega) (by omega) (by simp) HSA.out hV1.out hO1.out KD.empty HEA.out).mono ?_
  rintro e w2 ⟨M, ga, D1, rfl, hga, hgl, hia, hina, hM, hV2, hO2, hK2, hG2⟩
  have HI := Lib.hid hia
  have HIN := Lib.hid hina
  have HV2 := Lib.hid hV2
  have HO2 := Lib.hid hO2
  have HK2 := Lib.hid hK2
  have HG2 := Lib.hid hG2
  have HB2 := Lib.hid (hW1.out.trans (below_of_gm hG2 (by omega) (Nat.le_refl _)))
  clear hia hina hV2 hO2 hK2 hG2
  go_wp2_with fail
  refine (num_any b B cb (w.heap.size + 1) w.heap.size (0 + a.length) ([] ++ M) D1 w2 ((HB.out.below HB2.out).more HB2.out.size) hcb (by omega) (by omega) hM HSB.out HV2.out HO2.out HK2.out HEB.out).mono ?_
  rintro e w3 ⟨M2, gb, D2, rfl, hgb, hgbl, hib, hinb, hM2, hV3, hO3, hK3, hG3⟩
  have HR : Hid (NumsP a b w (.returned (.tuple #[.slice (some ⟨ga, 0, none⟩) a.length a.length, .slice (some ⟨gb, 0, none⟩) b.length b.length])) w3) := by
    have hlen : ∀ l : List ByteArray, (numsOf (([] ++ M) ++ M2) l).length = l.length := fun l => by simp [numsOf]
    have hget : ∀ (l : List ByteArray) (i : Nat) (h : i < l.length), (numsOf (([] ++ M) ++ M2) l).getD i 0 = ((([] ++ M) ++ M2).idxOf (byt l[i]) : Int) := fun l i h => by
      rw [List.getD_eq_getElem?_getD, numsOf, List.getElem?_map, List.getElem?_eq_getElem h]; rfl
    refine ⟨([] ++ M) ++ M2, ga, gb, rfl, fun _ => ⟨ga, rfl, Nat.lt_of_lt_of_le hgl hG3.size, fun i hi => ?_⟩, fun _ => ⟨gb, rfl, hgbl, fun i hi => ?_⟩, fun x hx => List.mem_append.2 (.inl (HIN.out x hx)), hinb, HB2.out.trans (below_of_gm hG3 HB2.out.size (Nat.le_refl _))⟩
    · rw [hlen] at hi
      rw [hget a i hi, cell_of_heap (hG3.block ga hgl (by intro e; injection e with e; omega)), HI.out i hi, idxOf_grow (HIN.out _ (List.getElem_mem hi))]
    · rw [hlen] at hi
      rw [hget b i hi]
      exact hib i hi
  clear hib hinb hV3 hO3 hK3 hG3
  go_wp2
  go_ret2
  exact HR.out
end Go.Proofs.YthbmnnnlkgbieaaGreatDoor
/- Contracts: the gaps between two lists of units. -/
namespace Go.Proofs.YthbmnnnlkgbieaaGreatDoor
open Go.RowKit Go.Op

set_option maxHeartbeats 1000000 in
theorem behind_any (a b c d : Nat) (w : World) (h : a ≤ 100000 ∧ b ≤ 100000 ∧ c ≤ 100000 ∧ d ≤ 100000) : Calls Tryz.prog 44 #[sp a b, sp c d] w fun e w' => e = .returned (sp ((c + a : Nat) : Int) ((d + b : Nat) : Int)) ∧ Below w.heap.size w w' := by
  obtain ⟨h1, h2, h3, h4⟩ := h
  go_enter Tryz.func44, Tryz.ntmps44
  go_wp2
  refine bodyPost_ret ?_ rfl ⟨rfl, ?_⟩
  · simp [results, Tryz.results44, go_sem]
  · exact bel3 _ _ _ _

abbrev bs (l : List ByteArray) : List (List UInt8) := l.map byt
theorem at_bs {a b : List ByteArray} {i j : Nat} (h : Dl.At a b i j) : Dl.At (bs a) (bs b) i j := (Dl.At_map byt (fun _x _ _y _ h => byt_inj h) i j).2 h
theorem bs_len (a : List ByteArray) : (bs a).length = a.length := List.length_map ..
theorem Mid.good_nil {a b : List ByteArray} {p : Nat} (h : Mid a b p p p) : Dl.Good (bs a) (bs b) 0 0 [] :=
  Dl.Good.fore p (fun k hk => at_bs (h.fore k hk)) (Dl.Good.rest _ p p rfl (by rw [bs_len]; exact h.xa) (by rw [bs_len]; exact h.yb) (by rw [bs_len, bs_len]; exact h.same) (fun k hk => at_bs (h.hind k (by rw [bs_len] at hk; exact hk))))
theorem Mid.good_one {a b : List ByteArray} {p x y : Nat} (h : Mid a b p x y) (h0 : x = p ∨ y = p) (hne : ¬ (x = p ∧ y = p)) : Dl.Good (bs a) (bs b) 0 0 [⟨p, p, x, y⟩] :=
  Dl.Good.one h.px h.py (by rw [bs_len]; exact h.xa) (by rw [bs_len]; exact h.yb) (by rw [bs_len, bs_len]; exact h.same) (fun k hk => at_bs (h.fore k hk)) (fun k hk => at_bs (h.hind k (by rw [bs_len] at hk; exact hk))) h0 hne
theorem Mid.good_part {a b : List ByteArray} {p x y : Nat} (h : Mid a b p x y) {G : List Dl.Gap} (hG : Dl.Good (bs ((a.drop p).take (x - p))) (bs ((b.drop p).take (y - p))) 0 0 G) : Dl.Good (bs a) (bs b) 0 0 (G.map (Dl.Gap.up p)) := by
  have e : ∀ (l : List ByteArray) (n : Nat), bs ((l.drop p).take n) = ((bs l).drop p).take n := fun l n => by simp [bs, List.map_take, List.map_drop]
  rw [e, e] at hG
  exact Dl.Good.fore p (fun k hk => at_bs (h.fore k hk)) (Dl.Good.part h.px h.py (by rw [bs_len]; exact h.xa) (by rw [bs_len]; exact h.yb) (by rw [bs_len, bs_len]; exact h.same) (fun k hk => at_bs (h.hind k (by rw [bs_len] at hk; exact hk))) hG)
theorem Mid.way_one {a b : List ByteArray} {p x y : Nat} (h : Mid a b p x y) (hne : ¬ (x = p ∧ y = p)) : Dl.Way (bs a) (bs b) 0 0 [⟨p, p, x, y⟩] :=
  Dl.Way.one h.px h.py (by rw [bs_len]; exact h.xa) (by rw [bs_len]; exact h.yb) (by rw [bs_len, bs_len]; exact h.same) (fun k hk => at_bs (h.fore k hk)) (fun k hk => at_bs (h.hind k (by rw [bs_len] at hk; exact hk))) hne

theorem Strs.part {w : World} {B : Nat} {A : Option Addr} {l : List ByteArray} (h : Strs w B A l) {p n : Nat} (hn : p + n ≤ l.length) : Strs w B (A.map fun x => x.add p) ((l.drop p).take n) := fun h0 => by
  have hl : ((l.drop p).take n).length = n := by simp; omega
  obtain ⟨g, off, e, hlt, hc⟩ := h (by omega)
  refine ⟨g, off + p, ?_, hlt, fun i hi => ?_⟩
  · rw [e]
    simp only [Option.map_some, Addr.add]
    split
    · simp_all
    · rfl
  · have := hc (p + i) (by omega)
    rw [Nat.add_assoc, this]
    simp
theorem gcells_len : ∀ G : List Dl.Gap, (gcells G).length = G.length * 4
  | [] => rfl
  | g :: G => by
    show ([Value.int .i64 g.fo, .int .i64 g.fn, .int .i64 g.eo, .int .i64 g.en] ++ gcells G).length = _
    rw [List.length_append, gcells_len G]; simp; omega
theorem gcells_get : ∀ (G : List Dl.Gap) (i : Nat) (h : i < G.length) (c : Nat), c < 4 → (gcells G)[i * 4 + c]? = [Value.int .i64 G[i].fo, .int .i64 G[i].fn, .int .i64 G[i].eo, .int .i64 G[i].en][c]?
  | [], i, h, _, _ => by simp at h
  | g :: G, 0, _, c, hc => by
    show ([Value.int .i64 g.fo, .int .i64 g.fn, .int .i64 g.eo, .int .i64 g.en] ++ gcells G)[0 * 4 + c]? = _
    rw [List.getElem?_append_left (by simp; omega)]
    simp
  | g :: G, i + 1, h, c, hc => by
    show ([Value.int .i64 g.fo, .int .i64 g.fn, .int .i64 g.eo, .int .i64 g.en] ++ gcells G)[(i + 1) * 4 + c]? = _
    rw [List.getElem?_append_right (by simp; omega)]
    have := gcells_get G i (by simpa using h) c hc
    simp only [List.length_cons, List.length_nil, List.getElem_cons_succ]
    rw [show (i + 1) * 4 + c - (0 + 1 + 1 + 1 + 1) = i * 4 + c by omega]
    exact this
theorem own_frm {w : World} {base e size n : Nat} {v : Value} {xs : List Value} (h : w.ownsRow base e size v n xs) : ∃ A cap, v = .slice A n cap ∧ n ≤ cap := by
  rcases h.2 with ⟨rfl, rfl⟩ | ⟨g, cap, cur, rfl, _, _, hc, _⟩
  · exact ⟨none, 0, rfl, Nat.le_refl _⟩
  · exact ⟨_, cap, rfl, hc⟩
/-- Gaps as they lie in a row. -/
theorem own_gap {w : World} {base cap : Nat} {A : Option Addr} {G : List Dl.Gap} (h : w.ownsRow base 57 4 (.slice A G.length cap) G.length (gcells G)) (k : Nat) (hk : k < G.length) :
    ∃ g, A = some ⟨g, 0, none⟩ ∧ base ≤ g ∧ g < w.heap.size ∧ w.cell? ⟨g, k * 4, none⟩ = some (.int .i64 G[k].fo) ∧ w.cell? ⟨g, k * 4 + 1, none⟩ = some (.int .i64 G[k].fn) ∧ w.cell? ⟨g, k * 4 + 2, none⟩ = some (.int .i64 G[k].eo) ∧ w.cell? ⟨g, k * 4 + 3, none⟩ = some (.int .i64 G[k].en) := by
  rcases h.2 with ⟨_, h0⟩ | ⟨g, cap', cur, hv, hb, hh, _⟩
  · omega
  · injection hv with hA _ _
    subst hA
    have hlt := (h.lt g rfl).2
    have key : ∀ c u, c < 4 → [Value.int .i64 G[k].fo, .int .i64 G[k].fn, .int .i64 G[k].eo, .int .i64 G[k].en][c]? = some u → w.cell? ⟨g, k * 4 + c, none⟩ = some u := fun c u hc hu => by
      have := h.cells (g := g) rfl (k * 4 + c) u (by rw [gcells_get G k hk c hc]; exact hu)
      have e1 : ((⟨g, 0, none⟩ : Addr).add (k * 4 + c)) = ⟨g, k * 4 + c, none⟩ := by unfold Addr.add; split <;> simp_all
      rwa [e1] at this
    exact ⟨g, rfl, hb, hlt, key 0 _ (by omega) rfl, key 1 _ (by omega) rfl, key 2 _ (by omega) rfl, key 3 _ (by omega) rfl⟩
theorem nm_small {n m : Nat} (hn : n ≠ 0) (hm : m ≠ 0) (h : n * m ≤ 1048576) : (n + 1) * (m + 1) ≤ 4194304 := by
  obtain ⟨n', rfl⟩ := Nat.exists_eq_succ_of_ne_zero hn
  obtain ⟨m', rfl⟩ := Nat.exists_eq_succ_of_ne_zero hm
  simp only [Nat.succ_eq_add_one, Nat.add_mul, Nat.mul_add] at *
  omega
theorem nums_good {T : List (List UInt8)} {a b : List ByteArray} (ha : ∀ x ∈ a, byt x ∈ T) (hb : ∀ x ∈ b, byt x ∈ T) {G : List Dl.Gap} (h : Dl.Good (numsOf T a) (numsOf T b) 0 0 G) : Dl.Good (bs a) (bs b) 0 0 G := by
  have e : ∀ l : List ByteArray, numsOf T l = (bs l).map fun x => (T.idxOf x : Int) := fun l => by simp [numsOf, bs]
  rw [e, e] at h
  refine Dl.Good.of_map _ (fun x hx y hy hxy => ?_) h
  obtain ⟨x', hx', rfl⟩ := List.mem_map.1 hx
  obtain ⟨y', hy', rfl⟩ := List.mem_map.1 hy
  have hxy' : T.idxOf (byt x') = T.idxOf (byt y') := Int.ofNat_inj.1 hxy
  have h1 := List.getElem_idxOf (List.idxOf_lt_length_of_mem (ha x' hx'))
  have h2 := List.getElem_idxOf (List.idxOf_lt_length_of_mem (hb y' hy'))
  rw [← h1, ← h2]
  simp only [hxy']
theorem good_in {α : Type} [DecidableEq α] {a b : List α} {i j : Nat} {G : List Dl.Gap} (h : Dl.Good a b i j G) : (∀ g ∈ G, g.fo ≤ g.eo ∧ g.fn ≤ g.en ∧ g.eo ≤ a.length ∧ g.en ≤ b.length) ∧ G.length + (i + j) ≤ a.length + b.length := by
  induction h with
  | done => exact ⟨by simp, by simp⟩
  | keep i j G _ h ih => exact ⟨ih.1, by have := ih.2; omega⟩
  | gap i j i' j' G h1 h2 h3 h4 h5 _ _ _ ih =>
    refine ⟨fun g hg => ?_, by have := ih.2; simp only [List.length_cons]; omega⟩
    rcases List.mem_cons.1 hg with rfl | hg
    · exact ⟨h1, h2, h3, h4⟩
    · exact ih.1 g hg

/-- What stands between two lists: the gaps of a best way, or one gap, if the rest is too much. -/
def Ap (a b : List ByteArray) (G : List Dl.Gap) : Prop :=
  (Dl.Good (bs a) (bs b) 0 0 G ∧ Dl.Sep G) ∨ ∃ p x y, Mid a b p x y ∧ G = [⟨p, p, x, y⟩] ∧ 1048576 < (x - p) * (y - p)
def ApP (a b : List ByteArray) (w : World) (e : Ending) (w' : World) : Prop :=
  ∃ (G : List Dl.Gap) (v : Value), e = .returned v ∧ w'.ownsRow w.heap.size 57 4 v G.length (gcells G) ∧ Ap a b G ∧ (∀ g ∈ G, g.fo ≤ g.eo ∧ g.fn ≤ g.en ∧ g.eo ≤ a.length ∧ g.en ≤ b.length) ∧ G.length ≤ a.length + b.length ∧ Below w.heap.size w w'

/-- What is held while a gap is laid behind the others: two blocks that are read. -/
abbrev HeldG (b1 b2 : Nat) (A1 A2 : Array Value) (w' : World) : Prop :=
  (∀ o, w'.cell? ⟨b1, o, none⟩ = A1[o]?) ∧ (∀ o, w'.cell? ⟨b2, o, none⟩ = A2[o]?) ∧ b1 < w'.heap.size ∧ b2 < w'.heap.size
theorem HeldG.call {b1 b2 : Nat} {A1 A2 : Array Value} {w' w2 : World} (h : HeldG b1 b2 A1 A2 w') (hb : Below w'.heap.size w' w2) : HeldG b1 b2 A1 A2 w2 := by
  obtain ⟨h0, h1, l0, l1⟩ := h
  have hs := hb.size
  exact ⟨fun o => (hb.cell (p := ⟨b1, o, none⟩) l0).trans (h0 o), fun o => (hb.cell (p := ⟨b2, o, none⟩) l1).trans (h1 o), by omega, by omega⟩
theorem HeldG.alloc {b1 b2 : Nat} {A1 A2 : Array Value} {w' : World} (h : HeldG b1 b2 A1 A2 w') (o : Obj) : HeldG b1 b2 A1 A2 (w'.alloc o) := h.call (bel1 w' o)
theorem HeldG.grown {b1 b2 : Nat} {A1 A2 : Array Value} {w' w2 : World} {r : Option Nat} (h : HeldG b1 b2 A1 A2 w') (hg : w'.grownBy w2 r) (n1 : some b1 ≠ r) (n2 : some b2 ≠ r) : HeldG b1 b2 A1 A2 w2 := by
  obtain ⟨h0, h1, l0, l1⟩ := h
  have hs := hg.size
  exact ⟨fun o => (cell_of_heap (hg.block b1 l0 n1)).trans (h0 o), fun o => (cell_of_heap (hg.block b2 l1 n2)).trans (h1 o), by omega, by omega⟩

set_option maxHeartbeats 8000000 in
set_option maxRecDepth 100000 in
theorem apart_any (a b : List ByteArray) (A B : Option Addr) (ca cb : Nat) (w : World) (hA : Strs w w.heap.size A a) (hB : Strs w w.heap.size B b) (la : a.length ≤ 50000) (lb : b.length ≤ 50000) (hca : a.length ≤ ca) (hcb : b.length ≤ cb)
    (hsa : ∀ s ∈ a, s.size ≤ maxLen) (hsb : ∀ s ∈ b, s.size ≤ maxLen) :
    Calls Tryz.prog 22 #[.slice A a.length ca, .slice B b.length cb] w fun e w' => ApP a b w e w' := by
  have HA := Lib.hid hA
  have HB := Lib.hid hB
  have HSA := Lib.hid hsa
  have HSB := Lib.hid hsb
  clear hA hB hsa hsb
  go_enter Tryz.func22, Tryz.ntmps22
  go_wp2_with fail
  refine (middle_any a b A B ca cb _ HA.out HB.out (by omega) (by omega) hca hcb).mono ?_
  rintro e w1 ⟨p, x, y, rfl, hM, hb1⟩
  obtain ⟨n, rfl⟩ : ∃ n, x = p + n := ⟨x - p, by have := hM.px; omega⟩
  obtain ⟨m, rfl⟩ : ∃ m, y = p + m := ⟨y - p, by have := hM.py; omega⟩
  have HM := Lib.hid hM
  have hpx := hM.px
  have hpy := hM.py
  have hxa := hM.xa
  have hyb := hM.yb
  have HB1 := Lib.hid (hb1.alloc hb1.size (.cells #[.int .i64 p, .int .i64 p, .int .i64 ((p : Int) + (n : Int)), .int .i64 ((p : Int) + (m : Int))] 57))
  have R5 := Lib.hid (RowB.new w1 57 #[.int .i64 p, .int .i64 p, .int .i64 ((p : Int) + (n : Int)), .int .i64 ((p : Int) + (m : Int))])
  have hb1s := hb1.size
  clear hM hb1
  go_wp2_with fail
  have hWs : (w1.alloc (.cells #[.int .i64 p, .int .i64 p, .int .i64 ((p : Int) + (n : Int)), .int .i64 ((p : Int) + (m : Int))] 57)).heap.size = w1.heap.size + 1 := by simp
  have hw1 : w.heap.size ≤ w1.heap.size := hb1s
  have r5 := R5.out.cell
  go_quiet (fail)
  have R5q : Hid (RowB ((w1.alloc (.cells #[.int .i64 p, .int .i64 p, .int .i64 ((p : Int) + (n : Int)), .int .i64 ((p : Int) + (m : Int))] 57)).drewN nq) w1.heap.size 57 #[.int .i64 p, .int .i64 p, .int .i64 ((p : Int) + (n : Int)), .int .i64 ((p : Int) + (m : Int))]) := R5.out
  have HBq := Lib.hid (below_drewN HB1.out nq)
  have hQs : ((w1.alloc (.cells #[.int .i64 p, .int .i64 p, .int .i64 ((p : Int) + (n : Int)), .int .i64 ((p : Int) + (m : Int))] 57)).drewN nq).heap.size = w1.heap.size + 1 := hWs
  generalize (w1.alloc (.cells #[.int .i64 p, .int .i64 p, .int .i64 ((p : Int) + (n : Int)), .int .i64 ((p : Int) + (m : Int))] 57)).drewN nq = V at *
  clear HB1 R5 r5 hWs
  by_cases h0 : n = 0 ∧ m = 0
  · obtain ⟨rfl, rfl⟩ := h0
    have HR : Hid (ApP a b w (.returned (.slice none 0 0)) V) := ⟨[], _, rfl, World.ownsRow_nil _ _ _ _, .inl ⟨HM.out.good_nil, trivial⟩, by simp, by simp, HBq.out⟩
    clear hpx hpy
    go_wp2
    all_goals
      go_ret
      exact HR.out
  · by_cases h1 : n = 0 ∨ m = 0 ∨ 1048576 < n * m
    · have hVs : w.heap.size ≤ V.heap.size := HBq.out.size
      have r5 := R5q.out.cell
      have HR : Hid (ApP a b w (.returned (.slice (some ⟨V.heap.size, 0, none⟩) 1 1)) (V.alloc (.cells #[.int .i64 p, .int .i64 p, .int .i64 ((p : Int) + (n : Int)), .int .i64 ((p : Int) + (m : Int))] 57))) := by
        refine ⟨[⟨p, p, p + n, p + m⟩], _, rfl, ?_, ?_, ?_, ?_, HBq.out.alloc hVs _⟩
        · have := World.ownsRow_lit (base := w.heap.size) (e := 57) (size := 4) V #[.int .i64 p, .int .i64 p, .int .i64 ((p : Int) + (n : Int)), .int .i64 ((p : Int) + (m : Int))] 1 hVs (by decide) rfl
          simpa [gcells] using this
        · rcases h1 with h | h | h
          · exact .inl ⟨HM.out.good_one (by omega) (by omega), trivial⟩
          · exact .inl ⟨HM.out.good_one (by omega) (by omega), trivial⟩
          · refine .inr ⟨p, p + n, p + m, HM.out, rfl, ?_⟩
            simpa using h
        · intro g hg
          have : g = ⟨p, p, p + n, p + m⟩ := by simpa using hg
          subst this
          exact ⟨hpx, hpy, hxa, hyb⟩
        · simp; omega
      have HR := Lib.hid (hQs ▸ HR.out : ApP a b w (.returned (.slice (some ⟨w1.heap.size + 1, 0, none⟩) 1 1)) (V.alloc (.cells #[.int .i64 p, .int .i64 p, .int .i64 ((p : Int) + (n : Int)), .int .i64 ((p : Int) + (m : Int))] 57)))
      by_cases hn : n = 0
      · have hm : ¬ m = 0 := fun h => h0 ⟨hn, h⟩
        subst hn
        rw [show (p : Int) + ((0 : Nat) : Int) = (p : Int) by omega] at HR
        have em : ((m : Int) == 0) = false := by rw [beq_eq_false_iff_ne]; omega
        have e00 : (((0 : Nat) : Int) == 0) = true := rfl
        have e01 : decide ((0 : Int) = 0) = true := rfl
        clear h0 h1
        go_wp2
        all_goals first
          | (go_ret; exact HR.out)
          | (exfalso; omega)
          | (exfalso; simp_all; done)
      · by_cases hm : m = 0
        · subst hm
          rw [show (p : Int) + ((0 : Nat) : Int) = (p : Int) by omega] at HR
          have en : ((n : Int) == 0) = false := by rw [beq_eq_false_iff_ne]; omega
          have e00 : (((0 : Nat) : Int) == 0) = true := rfl
          clear h0 h1
          go_wp2
          all_goals first
            | (go_ret; exact HR.out)
            | (exfalso; omega)
            | (exfalso; simp_all; done)
        · have en : ((n : Int) == 0) = false := by rw [beq_eq_false_iff_ne]; omega
          have em : ((m : Int) == 0) = false := by rw [beq_eq_false_iff_ne]; omega
          have hbig : 1048576 < n * m := by omega
          have hq : (1048576 : Int).tdiv (n : Int) = ((1048576 / n : Nat) : Int) := rfl
          have hlt : ((1048576 / n : Nat) : Int) < (m : Int) := by
            have := (Nat.div_lt_iff_lt_mul (x := 1048576) (y := m) (by omega : 0 < n)).2 (by rw [Nat.mul_comm]; exact hbig)
            omega
          generalize 1048576 / n = q at *
          clear h0 h1 hn hm hbig
          go_wp2
          all_goals first
            | (go_ret; exact HR.out)
            | (exfalso; omega)
            | (exfalso; simp_all; done)
    · have hn : n ≠ 0 := fun h => h1 (.inl h)
      have hm : m ≠ 0 := fun h => h1 (.inr (.inl h))
      have hsm : n * m ≤ 1048576 := by omega
      have HN := Lib.hid (nm_small hn hm hsm)
      have en : ((n : Int) == 0) = false := by rw [beq_eq_false_iff_ne]; omega
      have em : ((m : Int) == 0) = false := by rw [beq_eq_false_iff_ne]; omega
      have hq : (1048576 : Int).tdiv (n : Int) = ((1048576 / n : Nat) : Int) := rfl
      have hle : m ≤ 1048576 / n := (Nat.le_div_iff_mul_le (x := m) (y := 1048576) (by omega : 0 < n)).2 (by rw [Nat.mul_comm]; exact hsm)
      have hqb : 1048576 / n ≤ 1048576 := Nat.div_le_self _ _
      have hcp : ¬ ca = p := by omega
      have hcp2 : ¬ cb = p := by omega
      generalize 1048576 / n = q at *
      have hlt : decide ((q : Int) < (m : Int)) = false := by simp; omega
      have hlt2 : (m : Int) ≤ (q : Int) := by omega
      have hlt3 : decide (q < m) = false := by simp; omega
      have hn0 : ¬ (n : Int) = 0 := by omega
      have hm0 : ¬ (m : Int) = 0 := by omega
      obtain ⟨a', ha'⟩ : ∃ a', a' = (a.drop p).take n := ⟨_, rfl⟩
      obtain ⟨b', hb'⟩ : ∃ b', b' = (b.drop p).take m := ⟨_, rfl⟩
      have hla : a'.length = n := by rw [ha']; simp; omega
      have hlb : b'.length = m := by rw [hb']; simp; omega
      have hSA : Strs V V.heap.size (A.map fun x => x.add p) a' := by rw [ha']; exact ((HA.out.below HBq.out).more HBq.out.size).part hxa
      have hSB : Strs V V.heap.size (B.map fun x => x.add p) b' := by rw [hb']; exact ((HB.out.below HBq.out).more HBq.out.size).part hyb
      have CN := Lib.hid (numbers_any a' b' (A.map fun x => x.add p) (B.map fun x => x.add p) (ca - p) (cb - p) V hSA hSB (by omega) (by omega) (by omega) (by omega)
        (fun s hs => HSA.out s (by rw [ha'] at hs; exact List.mem_of_mem_drop (List.mem_of_mem_take hs))) (fun s hs => HSB.out s (by rw [hb'] at hs; exact List.mem_of_mem_drop (List.mem_of_mem_take hs))) (by omega) (by omega))
      rw [hla, hlb] at CN
      clear h0 h1 hSA hSB
      go_wp2_with fail
      refine CN.out.mono ?_
      rintro e w2 ⟨T, ga, gb, rfl, hia, hib, hTa, hTb, hb2⟩
      have la2 : (numsOf T a').length = n := by simp [numsOf, hla]
      have lb2 : (numsOf T b').length = m := by simp [numsOf, hlb]
      have CR := Lib.hid (reckon_any (numsOf T a') (numsOf T b') (some ⟨ga, 0, none⟩) (some ⟨gb, 0, none⟩) n m w2 hia hib (by omega) (by omega) (by rw [la2, lb2]; exact HN.out))
      rw [la2, lb2] at CR
      have HB2 := Lib.hid (HBq.out.trans (hb2.mono HBq.out.size))
      have R52 := Lib.hid (R5q.out.below hb2 R5q.out.lt)
      rw [hla, hlb]
      clear hia hib hb2 CN
      go_wp2_with fail
      refine CR.out.mono ?_
      rintro e w3 ⟨D, hDa, hDb, rfl, hF, hb3⟩
      have HB3 := Lib.hid (HB2.out.trans (hb3.mono HB2.out.size))
      have R53 := Lib.hid (R52.out.below hb3 R52.out.lt)
      have CG := Lib.hid (gaps_any D w3 hF)
      have HDN := Lib.hid hF.tb.hN
      clear hF hb3 CR
      go_wp2_with fail
      refine CG.out.mono ?_
      rintro e w4 ⟨G, v, rfl, hO, hTr, hb4⟩
      obtain ⟨AG, cG, rfl, hcG⟩ := own_frm hO
      have HB4 := Lib.hid (HB3.out.trans (hb4.mono HB3.out.size))
      have R54 := Lib.hid (R53.out.below hb4 R53.out.lt)
      have hGood := hTr.good HDN.out
      rw [hDa, hDb] at hGood
      have hGood2 := nums_good hTa hTb hGood
      have hGin := good_in hGood2
      rw [bs_len, bs_len, hla, hlb] at hGin
      rw [ha', hb'] at hGood2
      have hG3 := Mid.good_part (x := p + n) (y := p + m) HM.out (by rw [show p + n - p = n by omega, show p + m - p = m by omega]; exact hGood2)
      have HG3 := Lib.hid hG3
      have HSEP := Lib.hid (Dl.Sep.up p hTr.sep.1)
      have HGI := Lib.hid hGin.1
      have hGl := hGin.2
      have HO4 := Lib.hid hO
      clear hb4 CG hO hTr hGood hGood2 hGin hG3
      go_wp2_with fail
      obtain ⟨i0, hi0, hz0, hz1, hz2⟩ := info_parts info57
      have hw14 : w1.heap.size < w4.heap.size := R54.out.lt
      have hww4 : w.heap.size ≤ w4.heap.size := HB4.out.size
      clear hlt hlt2 hlt3 hle hqb en em hn0 hm0 hq
      go_loopg [10, 69] (G.length + 1) (fun kx v x wr => ∃ (k : Nat) (u : Value), u = v ∧ x = .int .i64 k ∧ k ≤ G.length ∧ G.length - k ≤ kx ∧ Hid (wr.ownsRow w4.heap.size 57 4 v k (gcells ((G.take k).map (Dl.Gap.up p)))) ∧ Hid (Below w4.heap.size w4 wr))
      case atStart => exact ⟨0, _, rfl, rfl, by omega, by omega, World.ownsRow_nil _ _ _ _, Below.refl _ _⟩
      case round =>
        obtain ⟨k, u, rfl, rfl, hk, hkx, HOk, HBk⟩ := hrel
        by_cases hlt : k < G.length
        · obtain ⟨gg0, eg, _, hgl, q0, q1, q2, q3⟩ := own_gap HO4.out k hlt
          subst eg
          have z0 := (HBk.out.cell (p := ⟨gg0, k * 4, none⟩) hgl).trans q0
          have z1 := (HBk.out.cell (p := ⟨gg0, k * 4 + 1, none⟩) hgl).trans q1
          have z2 := (HBk.out.cell (p := ⟨gg0, k * 4 + 2, none⟩) hgl).trans q2
          have z3 := (HBk.out.cell (p := ⟨gg0, k * 4 + 3, none⟩) hgl).trans q3
          obtain ⟨y1, y2, y3, y4⟩ := HGI.out _ (List.getElem_mem hlt)
          have hgk := List.take_succ_eq_append_getElem hlt
          generalize G[k] = gk at *
          have HGK := Lib.hid hgk
          have hwr4 := HBk.out.size
          have R12 := Lib.hid (RowB.new wr 57 #[.int .i64 gk.fo, .int .i64 gk.fn, .int .i64 gk.eo, .int .i64 gk.en])
          have R5a := Lib.hid ((R54.out.below HBk.out hw14).alloc (.cells #[.int .i64 gk.fo, .int .i64 gk.fn, .int .i64 gk.eo, .int .i64 gk.en] 57))
          have HOa := Lib.hid (HOk.out.alloc (.cells #[.int .i64 gk.fo, .int .i64 gk.fn, .int .i64 gk.eo, .int .i64 gk.en] 57))
          have HBa := Lib.hid (HBk.out.alloc hwr4 (.cells #[.int .i64 gk.fo, .int .i64 gk.fn, .int .i64 gk.eo, .int .i64 gk.en] 57))
          have hO1 : u.ownBlock ≠ some wr.heap.size := fun h => by have := (HOk.out.lt _ h).2; omega
          have hO2 : u.ownBlock ≠ some w1.heap.size := fun h => by have := (HOk.out.lt _ h).1; omega
          have C44 : Hid (∀ (x y r t : Int) (w' : World), ((x = gk.fo ∧ y = gk.fn ∧ r = (p : Int) + gk.fo ∧ t = (p : Int) + gk.fn) ∨ (x = gk.eo ∧ y = gk.en ∧ r = (p : Int) + gk.eo ∧ t = (p : Int) + gk.en)) → Calls Tryz.prog 44 #[.agg #[.int .i64 x, .int .i64 y], .agg #[.int .i64 p, .int .i64 p]] w' fun e w'' => e = .returned (sp r t) ∧ Below w'.heap.size w' w'') := by
            rintro x y r t w' (⟨rfl, rfl, rfl, rfl⟩ | ⟨rfl, rfl, rfl, rfl⟩)
            · have := behind_any gk.fo gk.fn p p w' (by omega)
              rwa [Int.natCast_add, Int.natCast_add] at this
            · have := behind_any gk.eo gk.en p p w' (by omega)
              rwa [Int.natCast_add, Int.natCast_add] at this
          clear q0 q1 q2 q3 hgk
          go_wp2_with fail
          have HS0 : HeldG wr.heap.size w1.heap.size #[.int .i64 gk.fo, .int .i64 gk.fn, .int .i64 gk.eo, .int .i64 gk.en] #[.int .i64 p, .int .i64 p, .int .i64 ((p : Int) + (n : Int)), .int .i64 ((p : Int) + (m : Int))] (wr.alloc (.cells #[.int .i64 gk.fo, .int .i64 gk.fn, .int .i64 gk.eo, .int .i64 gk.en] 57)).drew := ⟨R12.out.cell, R5a.out.cell, R12.out.lt, R5a.out.lt⟩
          have HB0 : Below (wr.alloc (.cells #[.int .i64 gk.fo, .int .i64 gk.fn, .int .i64 gk.eo, .int .i64 gk.en] 57)).heap.size (wr.alloc (.cells #[.int .i64 gk.fo, .int .i64 gk.fn, .int .i64 gk.eo, .int .i64 gk.en] 57)) (wr.alloc (.cells #[.int .i64 gk.fo, .int .i64 gk.fn, .int .i64 gk.eo, .int .i64 gk.en] 57)).drew := (Below.refl _ _).drew
          have hV0 : (wr.alloc (.cells #[.int .i64 gk.fo, .int .i64 gk.fn, .int .i64 gk.eo, .int .i64 gk.en] 57)).heap.size = wr.heap.size + 1 := by simp
          generalize wr.alloc (.cells #[.int .i64 gk.fo, .int .i64 gk.fn, .int .i64 gk.eo, .int .i64 gk.en] 57) = V0 at *
          have b3 : k + 1 ≤ maxLen := by unfold maxLen; omega
          have b4s : (k + 1) * 32 ≤ 140737488355328 := by omega
          go_region_held3 (fun w' => (∀ o, w'.cell? ⟨wr.heap.size, o, none⟩ = #[Value.int .i64 gk.fo, .int .i64 gk.fn, .int .i64 gk.eo, .int .i64 gk.en][o]?) ∧ (∀ o, w'.cell? ⟨w1.heap.size, o, none⟩ = #[Value.int .i64 p, .int .i64 p, .int .i64 ((p : Int) + (n : Int)), .int .i64 ((p : Int) + (m : Int))][o]?) ∧ wr.heap.size < w'.heap.size ∧ w1.heap.size < w'.heap.size)
            (first
              | (with_reducible exact HS0)
              | (with_reducible exact HeldG.call (by assumption) hbn)
              | (with_reducible exact HeldG.alloc (by assumption) _)
              | (with_reducible exact HeldG.grown (by assumption) hgrow hO1.symm hO2.symm))
            (first
              | (go_at_call 44; refine (C44.out _ _ _ _ _ (by first | exact Or.inl ⟨rfl, rfl, rfl, rfl⟩ | exact Or.inr ⟨rfl, rfl, rfl, rfl⟩)).mono ?_; rintro e w' ⟨rfl, hbn⟩; have hbX := step_bel (by first | exact hbX | exact HB0) hbn)
              | (refine step_append_lies _ (by rfl) (.tmp 73) (.tmp 85) 52 (by rfl) w4.heap.size 57 i0 _ 4 32 Tryz.underlying52 hi0 hz0 hz1 hz2 rfl (by omega) u k (gcells ((G.take k).map (Dl.Gap.up p))) (by rfl) ((own_bel HOa.out hbX).alloc _) ⟨w'.heap.size, 0, none⟩ 1 1 [.int .i64 ((p : Int) + gk.fo), .int .i64 ((p : Int) + gk.fn), .int .i64 ((p : Int) + gk.eo), .int .i64 ((p : Int) + gk.en)] (by rfl) (by rfl) (World.news_of_block (heap_new w' (.cells #[.int .i64 ((p : Int) + gk.fo), .int .i64 ((p : Int) + gk.fn), .int .i64 ((p : Int) + gk.eo), .int .i64 ((p : Int) + gk.en)] 57))) (by simp [Value.oneCell'])
                  (by omega) b3 b4s (by have := hbX.size; simp; omega) (w'.heap.size + 1) (by simp) ?_; intro gg cap' w3' hown3 hgrow hat hlt3))
          have hown4 : w3'.ownsRow w4.heap.size 57 4 (.slice (some ⟨gg, 0, none⟩) (k + 1) cap') (k + 1) (gcells ((G.take (k + 1)).map (Dl.Gap.up p))) := by
            rw [HGK.out, List.map_append, List.map_cons, List.map_nil, gcells_snoc]
            simpa [Dl.Gap.up] using hown3
          have HO5 := Lib.hid hown4
          have hbw : w4.heap.size ≤ w'.heap.size := by have := hbX.size; omega
          have HB5 := Lib.hid (((step_bel HBa.out hbX).alloc hbw (.cells #[.int .i64 ((p : Int) + gk.fo), .int .i64 ((p : Int) + gk.fn), .int .i64 ((p : Int) + gk.eo), .int .i64 ((p : Int) + gk.en)] 57)).grown hgrow (by simp; omega) (fun j hj => (HOa.out.lt j hj).1))
          clear hown3 hown4 hgrow hat HS0 HB0 hbX hbn
          go_wp2_with fail
          go_roundg (G.length - (k + 1))
          case measure => omega
          case rel => exact ⟨k + 1, _, rfl, by go_num, by omega, by omega, HO5.out, HB5.out⟩
        · obtain rfl : k = G.length := by omega
          have hOf := HOk.out
          rw [List.take_length] at hOf
          have HR : Hid (ApP a b w (.returned u) wr) := ⟨G.map (Dl.Gap.up p), u, rfl, by
              rw [List.length_map]
              exact Joins.ownsRow_le hOf hww4, .inl ⟨HG3.out, HSEP.out⟩, fun g hg => by
              obtain ⟨g', hg', rfl⟩ := List.mem_map.1 hg
              obtain ⟨y1, y2, y3, y4⟩ := HGI.out _ hg'
              simp only [Dl.Gap.up]
              omega, by rw [List.length_map]; omega, HB4.out.trans (HBk.out.mono hww4)⟩
          clear hOf
          go_wp2
          go_ret
          exact HR.out
end Go.Proofs.YthbmnnnlkgbieaaGreatDoor
/- Contracts: the units of tokens. -/
namespace Go.Proofs.YthbmnnnlkgbieaaGreatDoor
open Go.RowKit Go.Op

/-- The units of a token, of tokens. -/
def unit1 (x : ByteArray) : List ByteArray := if x.size = 0 then [] else [x]
def unitsT (t : Tok) : List ByteArray := unit1 t.lead ++ unit1 t.text
def unitsL (l : List Tok) : List ByteArray := l.flatMap unitsT
theorem unitsL_snoc (l : List Tok) (t : Tok) : unitsL (l ++ [t]) = unitsL l ++ unitsT t := by simp [unitsL]
theorem unitsT_len (t : Tok) : (unitsT t).length ≤ 2 := by
  unfold unitsT unit1
  split <;> split <;> simp
theorem unitsL_len : ∀ l : List Tok, (unitsL l).length ≤ l.length * 2
  | [] => by simp [unitsL]
  | t :: l => by
    show (unitsT t ++ unitsL l).length ≤ _
    have := unitsL_len l
    have := unitsT_len t
    simp only [List.length_append, List.length_cons]
    omega
theorem info9 : (Tryz.prog.info? 9).map (fun i => (i.zero, i.size, i.bytes)) = some (some (.string ⟨#[]⟩), 1, 16) := by kernel_rfl
theorem nonempty_eq (x : ByteArray) : x.toList.isEmpty = decide (x.size = 0) := by
  rw [ByteArray.toList_eq, Bool.eq_iff_iff, List.isEmpty_iff, decide_eq_true_iff, ← List.length_eq_zero_iff, Array.length_toList]
  exact Iff.rfl

theorem index2 (a b : ByteArray) (w : World) : (Instr.index 84 (.agg #[.string a, .string b]) (.int .i64 0)).run Tryz.prog w = .ok (.string a) w ∧ (Instr.index 84 (.agg #[.string a, .string b]) (.int .i64 1)).run Tryz.prog w = .ok (.string b) w := by
  have u9 := Tryz.underlying9
  have a9 := Tryz.isAgg9
  have z9 := Tryz.sizeOf9
  constructor
  · simp [Instr.index, run_underlying Tryz.underlying84, asIntOf, go_sem, *]
  · simp [Instr.index, run_underlying Tryz.underlying84, asIntOf, go_sem, *]

set_option maxHeartbeats 8000000 in
set_option maxRecDepth 100000 in
theorem units_any (l : List Tok) (A : Option Addr) (cap : Nat) (w : World) (hA : TokAt w A l) (hl : l.length ≤ 4000) (_hcap : l.length ≤ cap) :
    Calls Tryz.prog 21 #[.slice A l.length cap] w fun e w' => ∃ v, e = .returned v ∧ w'.ownsRow w.heap.size 9 1 v (unitsL l).length ((unitsL l).map Value.string) ∧ Below w.heap.size w w' := by
  obtain ⟨i0, hi0, hz0, hz1, hz2⟩ := info_parts info9
  have HA := Lib.hid hA
  have ix0 := fun a b w => (index2 a b w).1
  have ix1 := fun a b w => (index2 a b w).2
  clear hA
  go_enter Tryz.func21, Tryz.ntmps21
  go_wp2_with fail
  go_loopg [3, 10] (l.length + 1) (fun kx v x wr => ∃ (k : Nat) (u : Value), u = v ∧ x = .int .i64 k ∧ k ≤ l.length ∧ l.length - k ≤ kx ∧ Hid (wr.ownsRow w.heap.size 9 1 v (unitsL (l.take k)).length ((unitsL (l.take k)).map Value.string)) ∧ Hid (Below w.heap.size w wr))
  case atStart => exact ⟨0, _, rfl, rfl, by omega, by omega, World.ownsRow_nil _ _ _ _, Below.refl _ _⟩
  case round =>
    obtain ⟨k, u, rfl, rfl, hk, hkx, HO, HB⟩ := hrel
    by_cases hlt : k < l.length
    · obtain ⟨g, eg, lg, hc⟩ := HA.out (by omega)
      obtain ⟨q0, q1, q2, q3⟩ := hc k hlt
      subst eg
      have z0 := (HB.out.cell (p := ⟨g, k * 4, none⟩) lg).trans q0
      have z1 := (HB.out.cell (p := ⟨g, k * 4 + 1, none⟩) lg).trans q1
      have z2 := (HB.out.cell (p := ⟨g, k * 4 + 2, none⟩) lg).trans q2
      have z3 := (HB.out.cell (p := ⟨g, k * 4 + 3, none⟩) lg).trans q3
      have htk := List.take_succ_eq_append_getElem hlt
      generalize l[k] = t at *
      have HTK := Lib.hid htk
      clear hc q0 q1 q2 q3 htk
      go_wp2_with fail
      have HBt := Lib.hid (HB.out.alloc HB.out.size (.cells #[.int .i64 t.kind, .int .i64 t.at_, .string t.lead, .string t.text] 47))
      have HOt := Lib.hid (HO.out.alloc (.cells #[.int .i64 t.kind, .int .i64 t.at_, .string t.lead, .string t.text] 47))
      have hLk : (unitsL (l.take k)).length ≤ k * 2 := Nat.le_trans (unitsL_len _) (by rw [List.length_take]; omega)
      have hww := HBt.out.size
      generalize wr.alloc (.cells #[.int .i64 t.kind, .int .i64 t.at_, .string t.lead, .string t.text] 47) = W1 at *
      clear HB HO z0 z1 z2 z3
      go_loopg [3, 19] 3 (fun kx2 v x wr => ∃ (j : Nat) (u2 : Value), u2 = v ∧ x = .int .i64 j ∧ j ≤ 2 ∧ 2 - j ≤ kx2 ∧ Hid (wr.ownsRow w.heap.size 9 1 v (unitsL (l.take k) ++ ([t.lead, t.text].take j).flatMap unit1).length ((unitsL (l.take k) ++ ([t.lead, t.text].take j).flatMap unit1).map Value.string)) ∧ Hid (Below w.heap.size w wr))
      case atStart => exact ⟨0, _, rfl, rfl, by omega, by omega, by unfold Hid; simpa using HOt.out, HBt.out⟩
      case round =>
        obtain ⟨j, u2, rfl, rfl, hj, hkx2, HO2, HB2⟩ := hrel
        clear HOt HBt hww
        have hww := HB2.out.size
        have hlen : (unitsL (l.take k) ++ ([t.lead, t.text].take j).flatMap unit1).length ≤ k * 2 + 2 := by
          rw [List.length_append]
          have : (([t.lead, t.text].take j).flatMap unit1).length ≤ 2 := by
            rcases j with _ | _ | j
            · simp
            · simp [unit1]; split <;> simp
            · simp [unit1]; split <;> split <;> simp
          omega
        by_cases hj2 : j < 2
        · obtain ⟨x, hx⟩ : ∃ x, [t.lead, t.text][j]? = some x := ⟨[t.lead, t.text][j]'(by simpa using hj2), List.getElem?_eq_getElem (by simpa using hj2)⟩
          have hix : (#[Value.string t.lead, .string t.text] : Array Value)[j]? = some (.string x) := by
            rcases j with _ | _ | j
            · simp at hx ⊢; exact hx
            · simp at hx ⊢; exact hx
            · omega
          have hst : unitsL (l.take k) ++ ([t.lead, t.text].take (j + 1)).flatMap unit1 = (unitsL (l.take k) ++ ([t.lead, t.text].take j).flatMap unit1) ++ unit1 x := by
            rw [List.take_succ_eq_append_getElem (by simpa using hj2), List.flatMap_append, List.append_assoc]
            have : [t.lead, t.text][j]'(by simpa using hj2) = x := by
              rw [List.getElem?_eq_getElem (by simpa using hj2)] at hx
              injection hx
            rw [this]
            simp
          have HST := Lib.hid hst
          generalize unitsL (l.take k) ++ ([t.lead, t.text].take j).flatMap unit1 = U at *
          have hne := nonempty_eq x
          clear hst
          obtain rfl | rfl : j = 0 ∨ j = 1 := by omega
          · obtain rfl : t.lead = x := by simpa using hx
            by_cases hz : t.lead.size = 0
            · have hz' : decide (t.lead.size = 0) = true := by simpa using hz
              rw [hz'] at hne
              have HOn : Hid (wr.ownsRow w.heap.size 9 1 u2 (unitsL (l.take k) ++ ([t.lead, t.text].take (0 + 1)).flatMap unit1).length ((unitsL (l.take k) ++ ([t.lead, t.text].take (0 + 1)).flatMap unit1).map Value.string)) := by
                rw [HST.out, show unit1 t.lead = [] by simp [unit1, hz], List.append_nil]; exact HO2.out
              clear hz hz'
              go_wp2_with fail
              go_roundg (2 - (0 + 1))
              case measure => omega
              case rel => exact ⟨0 + 1, _, rfl, by go_num, by omega, by omega, HOn.out, HB2.out⟩
            · have hz' : decide (t.lead.size = 0) = false := by simpa using hz
              rw [hz'] at hne
              have hu : unit1 t.lead = [t.lead] := by simp [unit1, hz]
              have HU := Lib.hid hu
              have b3 : U.length + 1 ≤ maxLen := by unfold maxLen; omega
              have b4 : (U.length + 1) * 16 ≤ 140737488355328 := by omega
              have b5 : w.heap.size ≤ (wr.alloc (.cells #[.string t.lead] 9)).heap.size := by simp; omega
              have cn : ∀ (c : Nat) (y : Value), [Value.string t.lead][c]? = some y → (wr.alloc (.cells #[.string t.lead] 9)).cell? ((⟨wr.heap.size, 0, none⟩ : Addr).add c) = some y := World.news_of_block (heap_new wr (.cells #[.string t.lead] 9))
              have CN := Lib.hid cn
              have on1 : ∀ y ∈ [Value.string t.lead], y.oneCell' = true := by simp [Value.oneCell']
              clear cn hz hz' hu
              go_wp2_with (at_builtin; refine wpList_append_own _ rfl (.tmp 24) (.tmp 26) 34 rfl w.heap.size 9 i0 (.string ⟨#[]⟩) 1 16 Tryz.underlying34 hi0 hz0 hz1 hz2 rfl (by decide) _ _ _ rfl (HO2.out.alloc _) ⟨wr.heap.size, 0, none⟩ 1 1 [.string t.lead] rfl rfl CN.out on1 b3 b4 b5 ?_)
              intro v' w3 hown' hgrow _
              have HOn : Hid (w3.ownsRow w.heap.size 9 1 v' (unitsL (l.take k) ++ ([t.lead, t.text].take (0 + 1)).flatMap unit1).length ((unitsL (l.take k) ++ ([t.lead, t.text].take (0 + 1)).flatMap unit1).map Value.string)) := by
                rw [HST.out, HU.out, List.map_append, List.length_append]; exact hown'
              have HBn := Lib.hid ((HB2.out.alloc hww (.cells #[.string t.lead] 9)).grown hgrow b5 (fun c hc => (HO2.out.lt c hc).1))
              clear hown' hgrow b3 b4 b5 on1 CN
              go_wp2_with fail
              go_roundg (2 - (0 + 1))
              case measure => omega
              case rel => exact ⟨0 + 1, _, rfl, by go_num, by omega, by omega, HOn.out, HBn.out⟩
          · obtain rfl : t.text = x := by simpa using hx
            by_cases hz : t.text.size = 0
            · have hz' : decide (t.text.size = 0) = true := by simpa using hz
              rw [hz'] at hne
              have HOn : Hid (wr.ownsRow w.heap.size 9 1 u2 (unitsL (l.take k) ++ ([t.lead, t.text].take (1 + 1)).flatMap unit1).length ((unitsL (l.take k) ++ ([t.lead, t.text].take (1 + 1)).flatMap unit1).map Value.string)) := by
                rw [HST.out, show unit1 t.text = [] by simp [unit1, hz], List.append_nil]; exact HO2.out
              clear hz hz'
              go_wp2_with fail
              go_roundg (2 - (1 + 1))
              case measure => omega
              case rel => exact ⟨1 + 1, _, rfl, by go_num, by omega, by omega, HOn.out, HB2.out⟩
            · have hz' : decide (t.text.size = 0) = false := by simpa using hz
              rw [hz'] at hne
              have hu : unit1 t.text = [t.text] := by simp [unit1, hz]
              have HU := Lib.hid hu
              have b3 : U.length + 1 ≤ maxLen := by unfold maxLen; omega
              have b4 : (U.length + 1) * 16 ≤ 140737488355328 := by omega
              have b5 : w.heap.size ≤ (wr.alloc (.cells #[.string t.text] 9)).heap.size := by simp; omega
              have cn : ∀ (c : Nat) (y : Value), [Value.string t.text][c]? = some y → (wr.alloc (.cells #[.string t.text] 9)).cell? ((⟨wr.heap.size, 0, none⟩ : Addr).add c) = some y := World.news_of_block (heap_new wr (.cells #[.string t.text] 9))
              have CN := Lib.hid cn
              have on1 : ∀ y ∈ [Value.string t.text], y.oneCell' = true := by simp [Value.oneCell']
              clear cn hz hz' hu
              go_wp2_with (at_builtin; refine wpList_append_own _ rfl (.tmp 24) (.tmp 26) 34 rfl w.heap.size 9 i0 (.string ⟨#[]⟩) 1 16 Tryz.underlying34 hi0 hz0 hz1 hz2 rfl (by decide) _ _ _ rfl (HO2.out.alloc _) ⟨wr.heap.size, 0, none⟩ 1 1 [.string t.text] rfl rfl CN.out on1 b3 b4 b5 ?_)
              intro v' w3 hown' hgrow _
              have HOn : Hid (w3.ownsRow w.heap.size 9 1 v' (unitsL (l.take k) ++ ([t.lead, t.text].take (1 + 1)).flatMap unit1).length ((unitsL (l.take k) ++ ([t.lead, t.text].take (1 + 1)).flatMap unit1).map Value.string)) := by
                rw [HST.out, HU.out, List.map_append, List.length_append]; exact hown'
              have HBn := Lib.hid ((HB2.out.alloc hww (.cells #[.string t.text] 9)).grown hgrow b5 (fun c hc => (HO2.out.lt c hc).1))
              clear hown' hgrow b3 b4 b5 on1 CN
              go_wp2_with fail
              go_roundg (2 - (1 + 1))
              case measure => omega
              case rel => exact ⟨1 + 1, _, rfl, by go_num, by omega, by omega, HOn.out, HBn.out⟩
        · obtain rfl : j = 2 := by omega
          have hlt2 : ¬ ((2 : Nat) : Int) < 2 := by omega
          have hO2 := HO2.out
          rw [show (([t.lead, t.text].take 2).flatMap unit1) = unitsT t by simp [unitsT]] at hO2
          have HOn : Hid (wr.ownsRow w.heap.size 9 1 u2 (unitsL (l.take (k + 1))).length ((unitsL (l.take (k + 1))).map Value.string)) := by
            rw [HTK.out, unitsL_snoc]; exact hO2
          clear hO2 HO2
          go_wp2_with fail
          go_roundg (l.length - (k + 1))
          case measure => omega
          case rel => exact ⟨k + 1, _, rfl, by go_num, by omega, by omega, HOn.out, HB2.out⟩
    · obtain rfl : k = l.length := by omega
      have hO := HO.out
      rw [List.take_length] at hO
      have HOf := Lib.hid hO
      have hnl : ¬ (l.length : Int) < (l.length : Int) := by omega
      clear hO HO
      go_wp2
      go_ret
      exact ⟨_, rfl, HOf.out, HB.out⟩
end Go.Proofs.YthbmnnnlkgbieaaGreatDoor
/- Contracts: what package delta's Kept answers. -/
namespace Go.Proofs.YthbmnnnlkgbieaaGreatDoor
open Go.RowKit Go.Op

theorem strs_of_own {w : World} {base n cap : Nat} {A : Option Addr} {l : List ByteArray} (h : w.ownsRow base 9 1 (.slice A n cap) n (l.map Value.string)) : Strs w w.heap.size A l ∧ n = l.length := by
  have hn : n = l.length := by have := h.1; simp at this; omega
  refine ⟨fun h0 => ?_, hn⟩
  rcases h.2 with ⟨_, hz⟩ | ⟨g, cap', cur, hv, hb, hh, _⟩
  · omega
  · injection hv with hA _ _
    subst hA
    refine ⟨g, 0, rfl, (h.lt g rfl).2, fun i hi => ?_⟩
    have := h.cells (g := g) rfl i (.string l[i]) (by simp [hi])
    have e1 : ((⟨g, 0, none⟩ : Addr).add i) = ⟨g, 0 + i, none⟩ := by unfold Addr.add; split <;> simp_all
    rwa [e1] at this

/-- What Kept comes to. -/
def KeptP (la lb : List Tok) (w : World) (e : Ending) (w' : World) : Prop :=
  ∃ G, Ap (unitsL la) (unitsL lb) G ∧ e = .returned (.int .i64 ((unitsL la).length - Dl.gone G : Int)) ∧ Below w.heap.size w w'

theorem gone_snoc (G : List Dl.Gap) (g : Dl.Gap) : Dl.gone (G ++ [g]) = Dl.gone G + (g.eo - g.fo) := by
  induction G with
  | nil => simp [Dl.gone]
  | cons x G ih => simp only [List.cons_append, Dl.gone, ih]; omega
theorem gone_le {G : List Dl.Gap} {n : Nat} (h : ∀ g ∈ G, g.eo ≤ n) : Dl.gone G ≤ G.length * n := by
  induction G with
  | nil => simp [Dl.gone]
  | cons x G ih =>
    have := ih (fun g hg => h g (List.mem_cons_of_mem _ hg))
    have := h x (List.mem_cons_self)
    simp only [Dl.gone, List.length_cons, Nat.add_mul, Nat.one_mul]
    omega

set_option maxHeartbeats 8000000 in
set_option maxRecDepth 100000 in
theorem kept_any (la lb : List Tok) (A B : Option Addr) (ca cb : Nat) (w : World) (hA : TokAt w A la) (hB : TokAt w B lb) (hla : la.length ≤ 4000) (hlb : lb.length ≤ 4000) (hca : la.length ≤ ca) (hcb : lb.length ≤ cb)
    (hsa : ∀ s ∈ unitsL la, s.size ≤ maxLen) (hsb : ∀ s ∈ unitsL lb, s.size ≤ maxLen) :
    Calls Tryz.prog 16 #[.slice A la.length ca, .slice B lb.length cb] w fun e w' => KeptP la lb w e w' := by
  have HA := Lib.hid hA
  have HB := Lib.hid hB
  have HSA := Lib.hid hsa
  have HSB := Lib.hid hsb
  have hlu := unitsL_len la
  have hlv := unitsL_len lb
  have CU := Lib.hid (units_any la A ca w hA hla hca)
  clear hA hB hsa hsb
  go_enter Tryz.func16, Tryz.ntmps16
  go_wp2_with fail
  refine CU.out.mono ?_
  rintro e w1 ⟨v1, rfl, hO1, hb1⟩
  obtain ⟨A1, c1, rfl, hc1⟩ := own_frm hO1
  have HO1 := Lib.hid hO1
  have HB1 := Lib.hid hb1
  have CU2 := Lib.hid (units_any lb B cb w1 (HB.out.below hb1) hlb hcb)
  clear hO1 hb1 CU
  go_wp2_with fail
  refine CU2.out.mono ?_
  rintro e w2 ⟨v2, rfl, hO2, hb2⟩
  obtain ⟨A2, c2, rfl, hc2⟩ := own_frm hO2
  have hS1 := (strs_of_own (own_bel HO1.out hb2)).1
  have hS2 := (strs_of_own hO2).1
  have CA := Lib.hid (apart_any (unitsL la) (unitsL lb) A1 A2 c1 c2 w2 hS1 hS2 (by omega) (by omega) hc1 hc2 HSA.out HSB.out)
  have HB2 := Lib.hid (step_bel HB1.out hb2)
  clear hO2 hb2 CU2 hS1 hS2 HO1
  go_wp2_with fail
  refine CA.out.mono ?_
  rintro e w3 ⟨G, v3, rfl, hO3, hAp, hin, hGl, hb3⟩
  obtain ⟨A3, c3, rfl, hc3⟩ := own_frm hO3
  have HO3 := Lib.hid hO3
  have HAP := Lib.hid hAp
  have HIN := Lib.hid hin
  have HB3 := Lib.hid (step_bel HB2.out hb3)
  have hgt : ∀ k, Dl.gone (G.take k) ≤ 100000000 * 10 := fun k => by
    have := gone_le (G := G.take k) (n := (unitsL la).length) (fun g hg => (hin g (List.mem_of_mem_take hg)).2.2.1)
    have h2 : (G.take k).length ≤ 16000 := by rw [List.length_take]; omega
    have h3 : (G.take k).length * (unitsL la).length ≤ 16000 * 8000 := Nat.mul_le_mul h2 (by omega)
    omega
  have HGT := Lib.hid hgt
  clear hO3 hb3 CA hAp hin hgt
  go_wp2_with fail
  go_loopg [7, 20] (G.length + 1) (fun kx v x wr => ∃ k : Nat, v = .int .i64 ((unitsL la).length - Dl.gone (G.take k) : Int) ∧ x = .int .i64 k ∧ k ≤ G.length ∧ G.length - k ≤ kx ∧ Hid (Below w3.heap.size w3 wr))
  case atStart => exact ⟨0, by simp [Dl.gone], rfl, by omega, by omega, Below.refl _ _⟩
  case round =>
    obtain ⟨k, rfl, rfl, hk, hkx, HBk⟩ := hrel
    by_cases hlt : k < G.length
    · obtain ⟨g, eg, _, hgl, q0, q1, q2, q3⟩ := own_gap HO3.out k hlt
      subst eg
      have z0 := (HBk.out.cell (p := ⟨g, k * 4, none⟩) hgl).trans q0
      have z1 := (HBk.out.cell (p := ⟨g, k * 4 + 1, none⟩) hgl).trans q1
      have z2 := (HBk.out.cell (p := ⟨g, k * 4 + 2, none⟩) hgl).trans q2
      have z3 := (HBk.out.cell (p := ⟨g, k * 4 + 3, none⟩) hgl).trans q3
      have hy := HIN.out _ (List.getElem_mem hlt)
      have hgk := List.take_succ_eq_append_getElem hlt
      have hb0 := HGT.out k
      generalize G[k] = gk at *
      have HN : Hid ((unitsL la).length - Dl.gone (G.take k) - ((gk.eo : Int) - gk.fo) = ((unitsL la).length - Dl.gone (G.take (k + 1)) : Int)) := by
        unfold Hid
        rw [hgk, gone_snoc]
        omega
      have hbb := HBk.out.size
      have HBn := Lib.hid (HBk.out.alloc hbb (.cells #[.int .i64 gk.fo, .int .i64 gk.fn, .int .i64 gk.eo, .int .i64 gk.en] 57))
      obtain ⟨y1, y2, y3, y4⟩ := hy
      generalize Dl.gone (G.take k) = gt at *
      clear q0 q1 q2 q3 hgk
      go_wp2_with fail
      go_roundg (G.length - (k + 1))
      case measure => omega
      case rel => exact ⟨k + 1, by rw [← HN.out], by go_num, by omega, by omega, HBn.out⟩
    · obtain rfl : k = G.length := by omega
      have HR : Hid (KeptP la lb w (.returned (.int .i64 ((unitsL la).length - Dl.gone G : Int))) wr) := ⟨G, HAP.out, rfl, HB3.out.trans (HBk.out.mono HB3.out.size)⟩
      have hnl : ¬ (G.length : Int) < (G.length : Int) := by omega
      go_wp2
      go_ret
      exact HR.out
end Go.Proofs.YthbmnnnlkgbieaaGreatDoor
