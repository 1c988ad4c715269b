/- Values: QJ. -/
import Derived.Test.YtbjlhdjcdinmhaaDoorQI
import Derived.Deep.LoopGhost
import Derived.Laws.MakeOwn
import Derived.OwnWalk
import Derived.Shelf.SlSortCmp.NoneTotal
namespace Go.Proofs.YtbjlhdjcdinmhaaDoor
open Go.RowKit Go.Sort
namespace Vm
/-- A row that counts its places, as far as i. -/
def Cnt (w : World) (g n i : Nat) : Prop := ∃ cs : Array Value, RowB w g 3 cs ∧ cs.size = n ∧ ∀ j, j < n → cs[j]? = some (.int .i64 ((if j < i then j else 0 : Nat) : Int))
theorem Cnt.next {w : World} {g n i : Nat} (h : Cnt w g n i) (hi : i < n) : Cnt (w.setCell ⟨g, i, none⟩ (.int .i64 (i : Int))) g n (i + 1) := by
  obtain ⟨cs, h1, h2, h3⟩ := h
  refine ⟨_, h1.put i _, by simpa using h2, fun j hj => ?_⟩
  rw [Array.getElem?_setIfInBounds]
  by_cases e : i = j
  · subst e
    rw [if_pos rfl, if_pos (by omega), if_pos (by omega)]
  · rw [if_neg e, h3 j hj]
    by_cases h' : j < i
    · rw [if_pos h', if_pos (by omega)]
    · rw [if_neg h', if_neg (by omega)]
theorem Cnt.cell {w : World} {g n i : Nat} (h : Cnt w g n i) (hi : i < n) : ∃ v, w.cell? ⟨g, i, none⟩ = some v ∧ w.frozen? ⟨g, i, none⟩ = false := by
  obtain ⟨cs, h1, h2, h3⟩ := h
  exact ⟨_, (h1.cell i).trans (h3 i hi), h1.thaw i⟩
theorem Cnt.all {w : World} {g n : Nat} (h : Cnt w g n n) [Inhabited (Fin n)] : Holds (encF (n := n)) w g 0 (List.finRange n).toArray := by
  obtain ⟨cs, h1, h2, h3⟩ := h
  intro j hj
  have hj' : j < n := by simpa using hj
  refine ⟨?_, h1.thaw _⟩
  rw [Nat.zero_add, h1.cell, h3 j hj', if_pos hj', getElem!_pos (List.finRange n).toArray j hj]
  simp [encF]

set_option maxHeartbeats 4000000 in
set_option maxRecDepth 100000 in
theorem sort_any (n : Nat) (hn0 : 0 < n) (ns : List ByteArray) (hn : n = ns.length) (hn1 : n ≤ 1000001) (w : World) (P : Nat → Prop) (A : Option Addr) (c H g : Nat) (hN : NV w P ns A c) (hP : ∀ x, P x → x < g) (hb : RowB w H 22 #[.slice A n c]) (hH : H < g) (hc : Cnt w g n n) (hg : g < w.heap.size) :
    Calls Tryd.prog 63 #[.slice (some ⟨g, 0, none⟩) n n, .func (.func 64) #[] #[.pointer (some ⟨H, 0, none⟩)]] w fun e w' => e = .returned (.tuple #[]) ∧ (∃ pl : List Nat, Ris ns pl ∧ ∀ (i p : Nat), pl[i]? = some p → w'.cell? ⟨g, i, none⟩ = some (.int .i64 (p : Int))) ∧ Go.RowKit.Below g w w' := by
  subst hn
  haveI : Inhabited (Fin ns.length) := ⟨⟨0, hn0⟩⟩
  have hd : (List.finRange ns.length).toArray.size = ns.length := by simp
  have hcmp : CmpLays1 Tryd.prog 64 #[.pointer (some ⟨H, 0, none⟩)] (encF (n := ns.length)) (cfN ns) g 0 (List.finRange ns.length).toArray.size w := by
    intro m os dk hs x y
    have hb2 : RowB (sortWorld (encF (n := ns.length)) w g 0 m dk os) H 22 #[.slice A ns.length c] := (sortWorld_old _ w g 0 m dk os hb.lt (by omega)).trans hb
    have hN2 : NV (sortWorld (encF (n := ns.length)) w g 0 m dk os) P ns A c := hN.keep (sortWorld_size _ w g 0 m dk os) fun x hx hl => ⟨sortWorld_old _ w g 0 m dk os hl (by have := hP x hx; omega), hx⟩
    refine (rise_cmp _ ns P A c H hN2 hb2 x y).mono ?_
    rintro e w' ⟨rfl, q, rfl⟩
    exact ⟨rfl, q, #[], (grow_empty _).symm⟩
  have hcon := Any.slices_SortFunc srt (encF (n := ns.length)) (fun _ => rfl) (cfN ns) (swo_cfN ns) 64 #[.pointer (some ⟨H, 0, none⟩)] g 0 ns.length (List.finRange ns.length).toArray w (enters_of Tryd.func64 (by kernel_rfl) rfl) hcmp hc.all hg (by rw [hd]; omega)
  change Calls Tryd.prog 63 _ _ _ at hcon
  rw [hd] at hcon
  refine hcon.mono ?_
  rintro e w' ⟨rfl, d', q, os, h1, h2, rfl⟩
  refine ⟨rfl, ⟨d'.toList.map (·.val), perm_ris rfl (by rw [hd]; exact h1) (by rw [hd]; exact h2), fun i p hp => ?_⟩, sortWorld_below _ w g 0 q d' os (Nat.le_refl _) (by omega)⟩
  have hs : d'.size = (List.finRange ns.length).toArray.size := by
    have := h1.1
    exact this
  have hi : i < d'.size := by
    have := (List.getElem?_eq_some_iff.1 hp).1
    simpa using this
  have := (holds_sortWorld (encF (n := ns.length)) w g 0 q _ d' os hg hc.all hs i hi).1
  rw [Nat.zero_add, getElem!_pos d' i hi] at this
  rw [this]
  have ep : d'[i].val = p := by
    have : (d'.toList.map (·.val))[i]? = some d'[i].val := by simp [hi]
    rw [this] at hp; injection hp
  unfold encF
  rw [ep]

set_option maxHeartbeats 4000000 in
set_option maxRecDepth 100000 in
theorem rising_any (w : World) (ns : List ByteArray) (P : Nat → Prop) (A : Option Addr) (c : Nat) (hN : NV w P ns A c) (hl : ns.length ≤ 1000001) (h0 : 0 < ns.length) :
    Calls Tryd.prog 46 #[.slice A ns.length c] w (RiseQ ns w) := by
  obtain ⟨n, hn⟩ : ∃ n, n = ns.length := ⟨_, rfl⟩
  rw [← hn]
  have hn1 : n ≤ 1000001 := by omega
  obtain ⟨i0, hi0, hz0, hz1, hz2⟩ := info_parts info3
  have hmk : ∀ u : World, (Instr.makeSlice 79 (.int .i64 (n : Int)) (.int .i64 (n : Int))).run Tryd.prog u = .ok (.slice (some ⟨u.heap.size, 0, none⟩) n n) (u.alloc (.cells (madeCells (Value.int .i64 0).cells n) 3)) := fun u => by
    have := run_make (P := Tryd.prog) u 79 3 i0 _ Tryd.underlying79 hi0 hz0 .i64 .i64 (n : Int) (n : Int) (by omega) (Int.le_refl _) (by rw [hz2]; omega) (by omega)
    simpa [hz1] using this
  have hRs := size_madeCells (Value.int .i64 0).cells n
  have hR0 : ∀ t, t < n → (madeCells (Value.int .i64 0).cells n)[t]? = some (.int .i64 0) := fun t ht => by
    simp [madeCells, ht, Value.cells, Nat.mod_one]
  obtain ⟨cs0, hcs⟩ : ∃ cs0, cs0 = madeCells (Value.int .i64 0).cells n := ⟨_, rfl⟩
  rw [← hcs] at hmk hRs hR0
  have HMK := Lib.hid hmk
  have R0 := Lib.hid (RowB.new w 22 #[.slice A n c])
  have R1 := Lib.hid ((RowB.new w 22 #[.slice A n c]).alloc (.cells cs0 3))
  have HCN : Hid (Cnt ((w.alloc (.cells #[.slice A n c] 22)).alloc (.cells cs0 3)) (w.heap.size + 1) n 0) := by
    have h := RowB.new (w.alloc (.cells #[.slice A n c] 22)) 3 cs0
    refine ⟨cs0, by simpa using h, hRs, fun j hj => ?_⟩
    rw [hR0 j hj]; simp
  have HB0 : Hid (Go.RowKit.Below w.heap.size w ((w.alloc (.cells #[.slice A n c] 22)).alloc (.cells cs0 3))) := (bel1 w _).alloc (by simp) _
  have HNV := Lib.hid (hN.keep (w' := w) (Q := fun x => x < w.heap.size) (Nat.le_refl _) fun g hg hl => ⟨rfl, hl⟩)
  have rc := R0.out.cell
  have HN := Lib.hid hn
  have h00 : 0 < n := by omega
  clear hN hmk hRs hR0 hcs hl hn h0 hi0 hz0 hz1 hz2
  have hmk2 := HMK.out
  go_enter Tryd.func46, Tryd.ntmps46
  go_wp2_with fail
  clear hmk2 HMK rc
  obtain ⟨W, hW⟩ : ∃ W, W = (w.alloc (.cells #[.slice A n c] 22)).alloc (.cells cs0 3) := ⟨_, rfl⟩
  rw [← hW] at R1 HCN HB0 ⊢
  clear hW R0
  go_loopg [10] (n + 1) (fun kx s10 wr => ∃ i : Nat, s10 = .int .i64 i ∧ n - i ≤ kx ∧ i ≤ n ∧ Hid (Cnt wr (w.heap.size + 1) n i) ∧ Hid (RowB wr w.heap.size 22 #[.slice A n c]) ∧ Hid (Go.RowKit.Below w.heap.size w wr))
  case atStart => exact ⟨0, rfl, by omega, by omega, HCN.out, R1.out, HB0.out⟩
  case round =>
    obtain ⟨i, rfl, hkx, hin, HC, HR, HB⟩ := hrel
    by_cases hi : i < n
    · have hil : (i : Int) < (n : Int) := by omega
      obtain ⟨v, hv1, hv2⟩ := HC.out.cell hi
      have HC2 := Lib.hid (HC.out.next hi)
      have HR2 := Lib.hid (HR.out.far (p := ⟨w.heap.size + 1, i, none⟩) (by show w.heap.size ≠ w.heap.size + 1; omega) (.int .i64 (i : Int)))
      have HB2 : Hid (Go.RowKit.Below w.heap.size w (wr.setCell ⟨w.heap.size + 1, i, none⟩ (.int .i64 (i : Int)))) := HB.out.setCell (p := ⟨w.heap.size + 1, i, none⟩) (by show w.heap.size ≤ w.heap.size + 1; omega) _
      obtain ⟨j, hj⟩ : ∃ j, j = i + 1 := ⟨_, rfl⟩
      go_wp2_with fail
      go_roundg (n - j)
      case measure => omega
      case rel => exact ⟨j, by rw [hj]; go_num, by omega, by omega, by rw [hj]; exact HC2.out, HR2.out, HB2.out⟩
    · have hil : ¬ (i : Int) < (n : Int) := by omega
      obtain rfl : i = n := by omega
      have HS : Hid (w.heap.size + 1 < wr.heap.size) := by
        obtain ⟨cs, h1, _⟩ := HC.out
        exact h1.lt
      have C := Lib.hid (sort_any i h00 ns HN.out hn1 wr (fun x => x < w.heap.size) A c w.heap.size (w.heap.size + 1) (HNV.out.keep HB.out.size fun g hg _ => ⟨HB.out.block g hg, hg⟩) (fun x hx => by omega) HR.out (by omega) HC.out HS.out)
      have hmf : ∀ (fn : Fn) (first cap : Array Value) (w : World), (Instr.makeFunc fn first cap).run Tryd.prog w = .ok (.func fn first cap) w := fun _ _ _ _ => rfl
      clear hi
      go_wp2_with fail
      refine C.out.mono ?_
      rintro e w2 ⟨rfl, ⟨pl, hp, hcell⟩, hb2⟩
      have HF : Hid (RiseQ ns w (.returned (.slice (some ⟨w.heap.size + 1, 0, none⟩) i i)) w2) := ⟨w.heap.size + 1, pl, by rw [HN.out], hp, by omega, Nat.lt_of_lt_of_le HS.out hb2.size, hcell, HB.out.trans (hb2.mono (by omega))⟩
      clear hp hcell hb2 C
      go_wp2_with fail
      (first | go_ret | go_ret2)
      exact HF.out

set_option maxHeartbeats 4000000 in
set_option maxRecDepth 100000 in
theorem rising_nil (w : World) (A : Option Addr) (c : Nat) : Calls Tryd.prog 46 #[.slice A 0 c] w (RiseQ [] w) := by
  obtain ⟨i0, hi0, hz0, hz1, hz2⟩ := info_parts info3
  have hmk : ∀ u : World, (Instr.makeSlice 79 (.int .i64 0) (.int .i64 0)).run Tryd.prog u = .ok (.slice (some ⟨u.heap.size, 0, none⟩) 0 0) (u.alloc (.cells #[] 3)) := fun u => by
    have := run_make (P := Tryd.prog) u 79 3 i0 _ Tryd.underlying79 hi0 hz0 .i64 .i64 0 0 (by omega) (Int.le_refl _) (by rw [hz2]; omega) (by omega)
    rw [hz1, Array.eq_empty_of_size_eq_zero (xs := madeCells (Value.int IntKind.i64 0).cells (Int.toNat 0 * 1)) (by simp [madeCells])] at this
    exact this
  have R0 := Lib.hid (RowB.new w 22 #[.slice A 0 c])
  have HB0 : Hid (Go.RowKit.Below w.heap.size w ((w.alloc (.cells #[.slice A 0 c] 22)).alloc (.cells #[] 3))) := (bel1 w _).alloc (by simp) _
  have rc := R0.out.cell
  have C := fun (fv : Value) (u : World) => AnyF.slices_SortFunc_none (P := Tryd.prog) (ρ := srt_ren) { srt with } (some ⟨w.heap.size + 1, 0, none⟩) 0 fv u
  change ∀ (fv : Value) (u : World), Calls Tryd.prog 63 #[.slice (some ⟨w.heap.size + 1, 0, none⟩) 0 0, fv] u fun e w' => e = .returned (.tuple #[]) ∧ w' = u at C
  have hmf : ∀ (fn : Fn) (first cap : Array Value) (w : World), (Instr.makeFunc fn first cap).run Tryd.prog w = .ok (.func fn first cap) w := fun _ _ _ _ => rfl
  clear hi0 hz0 hz1 hz2
  go_enter Tryd.func46, Tryd.ntmps46
  go_wp2_with fail
  obtain ⟨W, hW⟩ : ∃ W, W = (w.alloc (.cells #[.slice A 0 c] 22)).alloc (.cells #[] 3) := ⟨_, rfl⟩
  have HS : Hid (w.heap.size + 1 < W.heap.size) := by unfold Hid; rw [hW]; simp
  rw [← hW] at HB0 ⊢
  clear hW R0 rc hmk
  go_loopg [10] 1 (fun kx s10 wr => s10 = .int .i64 0 ∧ 1 - 0 ≤ kx + 1 ∧ Hid (W = wr))
  case atStart => exact ⟨rfl, by omega, rfl⟩
  case round =>
    obtain ⟨rfl, _, HW⟩ := hrel
    obtain rfl := HW.out
    go_wp2_with fail
    refine (C _ _).mono ?_
    rintro e w2 ⟨rfl, rfl⟩
    go_wp2_with fail
    (first | go_ret | go_ret2)
    refine ⟨w.heap.size + 1, [], rfl, ⟨rfl, fun i => by simp, List.nodup_nil, fun i j a b _ h => ?_⟩, by omega, HS.out, fun i p h => by simp at h, HB0.out⟩
    obtain ⟨p, hp, _⟩ := h
    simp at hp
theorem rising_all (w : World) (ns : List ByteArray) (P : Nat → Prop) (A : Option Addr) (c : Nat) (hN : NV w P ns A c) (hl : ns.length ≤ 1000001) : Calls Tryd.prog 46 #[.slice A ns.length c] w (RiseQ ns w) := by
  cases ns with
  | nil => exact rising_nil w A c
  | cons a l => exact rising_any w (a :: l) P A c hN hl (by simp)

end Vm
end Go.Proofs.YtbjlhdjcdinmhaaDoor
