/- Contracts: where units begin. -/
import Derived.Test.YthbmnnnlkgbieaaGreatDoorMB3
import Derived.Test.YthbmnnnlkgbieaaGreatDoorShC
namespace Go.Proofs.YthbmnnnlkgbieaaGreatDoor
open Go.RowKit Go.Op

/-- How long strings are together. -/
def szs (l : List ByteArray) : Nat := (l.map ByteArray.size).sum
theorem szs_snoc (l : List ByteArray) (x : ByteArray) : szs (l ++ [x]) = szs l + x.size := by simp [szs]
theorem szs_take (l : List ByteArray) (i : Nat) (h : i < l.length) : szs (l.take (i + 1)) = szs (l.take i) + l[i].size := by
  rw [List.take_succ_eq_append_getElem h, szs_snoc]
theorem szs_le (l : List ByteArray) (i : Nat) : szs (l.take i) ≤ szs l := by
  have h : l = l.take i ++ l.drop i := (List.take_append_drop i l).symm
  have : szs l = szs (l.take i) + szs (l.drop i) := by
    conv => lhs; rw [h]
    unfold szs
    rw [List.map_append, List.sum_append]
  omega

theorem szs_append (l m : List ByteArray) : szs (l ++ m) = szs l + szs m := by simp [szs]
theorem szs_part (l : List ByteArray) (p n : Nat) {B : Nat} (h : szs l ≤ B) : szs ((l.drop p).take n) ≤ B := by
  have h1 : szs l = szs (l.take p) + szs (l.drop p) := by rw [← szs_append, List.take_append_drop]
  have h2 : szs (l.drop p) = szs ((l.drop p).take n) + szs ((l.drop p).drop n) := by rw [← szs_append, List.take_append_drop]
  omega

/-- What asking for places comes to. -/
def PlacesP (l : List ByteArray) (w : World) (e : Ending) (w' : World) : Prop :=
  ∃ vb g, e = .returned (.func (.func 45) #[] #[.pointer (some ⟨vb, 0, none⟩)]) ∧ RowB w' vb 76 #[.slice (some ⟨g, 0, none⟩) (l.length + 1) (l.length + 1)] ∧ g < w'.heap.size ∧
      (∀ i, i ≤ l.length → w'.cell? ⟨g, i, none⟩ = some (.int .i64 (szs (l.take i)))) ∧ Below w.heap.size w w'

set_option maxHeartbeats 8000000 in
set_option maxRecDepth 100000 in
theorem places_any (l : List ByteArray) (A : Option Addr) (cap : Nat) (w : World) (hA : Strs w w.heap.size A l) (hl : l.length ≤ 50000) (_hcap : l.length ≤ cap) (hz : szs l ≤ 1000000000) :
    Calls Tryz.prog 23 #[.slice A l.length cap] w fun e w' => PlacesP l w e w' := by
  obtain ⟨i0, hi0, hz0, hz1, hz2⟩ := info_parts info3
  have hmk : ∀ u : World, (Instr.makeSlice 76 (.int .i64 ((l.length : Int) + 1)) (.int .i64 ((l.length : Int) + 1))).run Tryz.prog u = .ok (.slice (some ⟨u.heap.size, 0, none⟩) (l.length + 1) (l.length + 1)) (u.alloc (.cells (madeCells (Value.int .i64 0).cells (l.length + 1)) 3)) := fun u => by
    have := run_make (P := Tryz.prog) u 76 3 i0 _ Tryz.underlying76 hi0 hz0 .i64 .i64 ((l.length + 1 : Nat) : Int) ((l.length + 1 : Nat) : Int) (by omega) (Int.le_refl _) (by rw [hz2]; omega) (by omega)
    simpa [hz1] using this
  have hRs := size_madeCells (Value.int .i64 0).cells (l.length + 1)
  have hR0 : (madeCells (Value.int .i64 0).cells (l.length + 1))[0]? = some (.int .i64 0) := by
    unfold madeCells
    rw [Array.getElem?_map, Array.getElem?_range, if_pos (by omega)]
    rfl
  generalize madeCells (Value.int .i64 0).cells (l.length + 1) = R0 at *
  have HA := Lib.hid hA
  obtain ⟨g0, g1⟩ := new2 w (.cells R0 3) (.cells #[.slice (some ⟨w.heap.size, 0, none⟩) (l.length + 1) (l.length + 1)] 76)
  have HR0 : Hid (RowB ((w.alloc (.cells R0 3)).alloc (.cells #[.slice (some ⟨w.heap.size, 0, none⟩) (l.length + 1) (l.length + 1)] 76)) w.heap.size 3 R0) := g0
  have HV0 : Hid (RowB ((w.alloc (.cells R0 3)).alloc (.cells #[.slice (some ⟨w.heap.size, 0, none⟩) (l.length + 1) (l.length + 1)] 76)) (w.heap.size + 1) 76 #[.slice (some ⟨w.heap.size, 0, none⟩) (l.length + 1) (l.length + 1)]) := g1
  have HB0 := Lib.hid (bel2 w (.cells R0 3) (.cells #[.slice (some ⟨w.heap.size, 0, none⟩) (l.length + 1) (l.length + 1)] 76))
  clear hz0 hz1 hz2 hi0 hA g0 g1
  go_enter Tryz.func23, Tryz.ntmps23
  go_wp2_with fail
  go_loopg [12] (l.length + 1) (fun kx v wr => ∃ (k : Nat) (R : Array Value), v = .int .i64 k ∧ k ≤ l.length ∧ l.length - k ≤ kx ∧ R.size = l.length + 1 ∧ Hid (∀ i, i ≤ k → R[i]? = some (.int .i64 (szs (l.take i)))) ∧ Hid (RowB wr w.heap.size 3 R) ∧ Hid (RowB wr (w.heap.size + 1) 76 #[.slice (some ⟨w.heap.size, 0, none⟩) (l.length + 1) (l.length + 1)]) ∧ Hid (Below w.heap.size w wr))
  case atStart => exact ⟨0, R0, rfl, by omega, by omega, hRs, fun i hi => by obtain rfl : i = 0 := by omega
                                                                             simpa [szs] using hR0, HR0.out, HV0.out, HB0.out⟩
  case round =>
    obtain ⟨k, R, rfl, hk, hkx, hRz, HF, HR, HV, HB⟩ := hrel
    by_cases hlt : k < l.length
    · obtain ⟨ga, oa, ea, lga, hca1⟩ := (HA.out.below HB.out) (by omega)
      have ka := hca1 k hlt
      subst ea
      have hs := szs_take l k hlt
      have hsl := szs_le l (k + 1)
      generalize l[k] = x at *
      have HS := Lib.hid hs
      have r1 := HR.out.cell k
      rw [HF.out k (Nat.le_refl _)] at r1
      have r2 := HR.out.cell (k + 1)
      rw [Array.getElem?_eq_getElem (by omega)] at r2
      have rf := HR.out.thaw
      have v0 := HV.out.cell 0
      have hsum : szs (l.take k) + x.size ≤ 1000000000 := by omega
      generalize hq : szs (l.take k) = q at *
      have e1 : IntKind.i64.wrap ((k : Int) + 1) = (k : Int) + 1 := by rw [IntKind.wrap_i64]; omega
      have e2 : IntKind.i64.wrap ((q : Int) + (x.size : Int)) = (q : Int) + (x.size : Int) := by rw [IntKind.wrap_i64]; omega
      have e3 : ((k : Int) + 1).toNat = k + 1 := by omega
      have e4 : (0 : Int) ≤ (k : Int) + 1 := by omega
      have e5 : (k : Int) + 1 < ((l.length + 1 : Nat) : Int) := by omega
      have e6 : (k : Int) < (l.length : Int) + 1 := by omega
      have e7 : (k : Int) + 1 < (l.length : Int) + 1 := by omega
      have e8 : (0 : Int) ≤ (k : Int) := by omega
      clear hca1 hs hsl
      go_wp2_with fail
      have HS0 : wr.drew.cell? ⟨w.heap.size + 1, 0, none⟩ = some (.slice (some ⟨w.heap.size, 0, none⟩) (l.length + 1) (l.length + 1)) ∧ wr.drew.cell? ⟨w.heap.size, k, none⟩ = some (.int .i64 q) ∧ wr.drew.cell? ⟨w.heap.size, k + 1, none⟩ = some (cur wr.drew ⟨w.heap.size, k + 1, none⟩) ∧ (∀ o, wr.drew.frozen? ⟨w.heap.size, o, none⟩ = false) := ⟨v0, r1, cur_some r2, rf⟩
      have HS1 : ∀ u : Value, (wr.setCell ⟨w.heap.size, k + 1, none⟩ u).drew.cell? ⟨w.heap.size + 1, 0, none⟩ = some (.slice (some ⟨w.heap.size, 0, none⟩) (l.length + 1) (l.length + 1)) ∧ (wr.setCell ⟨w.heap.size, k + 1, none⟩ u).drew.cell? ⟨w.heap.size, k, none⟩ = some (.int .i64 q) ∧ (wr.setCell ⟨w.heap.size, k + 1, none⟩ u).drew.cell? ⟨w.heap.size, k + 1, none⟩ = some (cur (wr.setCell ⟨w.heap.size, k + 1, none⟩ u).drew ⟨w.heap.size, k + 1, none⟩) ∧ (∀ o, (wr.setCell ⟨w.heap.size, k + 1, none⟩ u).drew.frozen? ⟨w.heap.size, o, none⟩ = false) := fun u => by
        have h1 := HR.out.put (k + 1) u
        refine ⟨(HV.out.far (p := ⟨w.heap.size, k + 1, none⟩) (by simp) u).cell 0, ?_, ?_, h1.thaw⟩
        · have := h1.cell k
          rw [Array.getElem?_setIfInBounds, if_neg (by omega), HF.out k (Nat.le_refl _), hq] at this
          exact this
        · have := h1.cell (k + 1)
          rw [Array.getElem?_setIfInBounds, if_pos rfl, if_pos (by omega)] at this
          exact cur_some this
      have HF2 : Hid (∀ i, i ≤ k + 1 → (R.setIfInBounds (k + 1) (.int .i64 ((q : Int) + (x.size : Int))))[i]? = some (.int .i64 (szs (l.take i)))) := fun i hi => by
        by_cases e : i = k + 1
        · subst e
          rw [Array.getElem?_setIfInBounds, if_pos rfl, if_pos (by omega), HS.out, Int.natCast_add]
        · rw [Array.getElem?_setIfInBounds, if_neg (by omega)]
          exact HF.out i (by omega)
      have N1 : Hid (RowB (wr.setCell ⟨w.heap.size, k + 1, none⟩ (.int .i64 ((q : Int) + (x.size : Int)))).drew w.heap.size 3 (R.setIfInBounds (k + 1) (.int .i64 ((q : Int) + (x.size : Int))))) := HR.out.put (k + 1) _
      have N2 : Hid (RowB (wr.setCell ⟨w.heap.size, k + 1, none⟩ (.int .i64 ((q : Int) + (x.size : Int)))).drew (w.heap.size + 1) 76 #[.slice (some ⟨w.heap.size, 0, none⟩) (l.length + 1) (l.length + 1)]) := HV.out.far (p := ⟨w.heap.size, k + 1, none⟩) (by simp) _
      have N3 := Lib.hid (HB.out.setCell (p := ⟨w.heap.size, k + 1, none⟩) (Nat.le_refl _) (.int .i64 ((q : Int) + (x.size : Int)))).drew
      clear r1 r2 rf v0
      go_region_held3 (fun w' => w'.cell? ⟨w.heap.size + 1, 0, none⟩ = some (.slice (some ⟨w.heap.size, 0, none⟩) (l.length + 1) (l.length + 1)) ∧ w'.cell? ⟨w.heap.size, k, none⟩ = some (.int .i64 q) ∧ w'.cell? ⟨w.heap.size, k + 1, none⟩ = some (cur w' ⟨w.heap.size, k + 1, none⟩) ∧ (∀ o, w'.frozen? ⟨w.heap.size, o, none⟩ = false))
        (first | exact HS0 | exact HS1 _) (fail)
      clear HS0 HS1
      go_wp2_with fail
      go_roundg (l.length - (k + 1))
      case measure => omega
      case rel => exact ⟨k + 1, _, by go_num, by omega, by omega, by simpa using hRz, HF2.out, N1.out, N2.out, N3.out⟩
    · obtain rfl : k = l.length := by omega
      have hnl : ¬ (l.length : Int) < (l.length : Int) := by omega
      have HR2 : Hid (∀ i, i ≤ l.length → wr.cell? ⟨w.heap.size, i, none⟩ = some (.int .i64 (szs (l.take i)))) := fun i hi => by rw [HR.out.cell i]; exact HF.out i hi
      go_wp2
      go_ret
      exact ⟨_, _, rfl, HV.out, HR.out.lt, HR2.out, HB.out⟩

set_option maxHeartbeats 1000000 in
theorem place_any (l : List ByteArray) (vb g i : Nat) (w : World) (hV : RowB w vb 76 #[.slice (some ⟨g, 0, none⟩) (l.length + 1) (l.length + 1)]) (hc : ∀ i, i ≤ l.length → w.cell? ⟨g, i, none⟩ = some (.int .i64 (szs (l.take i)))) (hi : i ≤ l.length) (_hl : l.length ≤ 50000) :
    Calls Tryz.prog 45 #[.int .i64 i, .pointer (some ⟨vb, 0, none⟩)] w fun e w' => e = .returned (.int .i64 (szs (l.take i))) ∧ Below w.heap.size w w' := by
  have v0 := hV.cell 0
  have h := hc i hi
  generalize szs (l.take i) = q at *
  have e1 : (i : Int) < (l.length : Int) + 1 := by omega
  clear hc
  go_enter Tryz.func45, Tryz.ntmps45
  go_wp2
  go_ret
  exact ⟨rfl, Below.refl _ _⟩
end Go.Proofs.YthbmnnnlkgbieaaGreatDoor
