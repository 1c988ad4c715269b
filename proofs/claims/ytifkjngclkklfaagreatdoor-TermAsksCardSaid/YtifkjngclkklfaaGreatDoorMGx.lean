/- Contracts: a printer that a call has made itself: what it writes. -/
import Derived.Test.YtifkjngclkklfaaGreatDoorMGu
import Derived.Lib.Builder
import Derived.Lib.AppendStr
import Derived.Lib.OthersKept
import Derived.Lib.UnsafeStr
import Derived.RegionTactic
import Derived.Deep.LoopGhost
import Derived.Test.YtifkjngclkklfaaGreatDoorMGf
namespace Go.Proofs.YtifkjngclkklfaaGreatDoor
open Go.RowKit

theorem infoB : (Tryz.prog.info? 60).map (·.size) = some 2 := by kernel_rfl
theorem liesB : liesAt Tryz.prog Tryz.prog.depth 62 (2 / Tryz.prog.cellsOf 62) 0 60 1 = true := by kernel_rfl
theorem infoU : (Tryz.prog.info? 5).map (fun i => (i.zero, i.size, i.bytes)) = some (some (.int .u8 0), 1, 1) := by kernel_rfl

/-- A printer in memory: what it has written, by a writer that a call has made itself. -/
def PrnA (B b : Nat) (p : Value) (bs : List Value) (w : World) : Prop :=
  B ≤ b ∧ ∃ v, w.heap[b]? = some (.cells #[p, v] 62 (0, 0)) ∧ w.ownsRow B 5 1 v bs.length bs ∧ v.ownBlock ≠ some b
def Prn (B b : Nat) (bs : List Value) (w : World) : Prop := PrnA B b (.pointer none) bs w ∨ PrnA B b (.pointer (some ⟨b, 0, none⟩)) bs w
theorem heap_lt {w : World} {b : Nat} {o : Obj} (h : w.heap[b]? = some o) : b < w.heap.size := by
  rcases Nat.lt_or_ge b w.heap.size with h' | h'
  · exact h'
  · rw [Array.getElem?_eq_none h'] at h; cases h
theorem PrnA.below {B b : Nat} {p : Value} {bs : List Value} {w w' : World} (h : PrnA B b p bs w) (hb : Below w.heap.size w w') : PrnA B b p bs w' := by
  obtain ⟨h1, v, h2, h3, h4⟩ := h
  refine ⟨h1, v, ?_, own_below h3 hb, h4⟩
  rw [hb.block b (heap_lt h2)]; exact h2
theorem Prn.below {B b : Nat} {bs : List Value} {w w' : World} (h : Prn B b bs w) (hb : Below w.heap.size w w') : Prn B b bs w' := by
  rcases h with h | h
  · exact .inl (h.below hb)
  · exact .inr (h.below hb)
theorem Prn.lt {B b : Nat} {bs : List Value} {w : World} (h : Prn B b bs w) : b < w.heap.size ∧ B ≤ b := by
  rcases h with ⟨h1, v, h2, _⟩ | ⟨h1, v, h2, _⟩ <;> exact ⟨heap_lt h2, h1⟩
theorem Prn.froz {B b : Nat} {bs : List Value} {w : World} (h : Prn B b bs w) (i : Nat) : w.frozen? ⟨b, i, none⟩ = false := by
  rcases h with ⟨h1, v, h2, _⟩ | ⟨h1, v, h2, _⟩ <;> exact Lib.frozen_of_heap h2 i
theorem PrnA.put {B b : Nat} {p v v' : Value} {bs' : List Value} {w : World} (hB : B ≤ b) (hb : w.heap[b]? = some (.cells #[p, v] 62 (0, 0))) (hown : w.ownsRow B 5 1 v' bs'.length bs') : PrnA B b p bs' (w.setCell ⟨b, 1, none⟩ v') := by
  have hne := Lib.ownBlock_ne hown hb (by decide)
  refine ⟨hB, v', ?_, ?_, hne⟩
  · simp [World.setCell, Array.getElem?_modify, hb]
  · exact hown.kept (row := some b) ⟨rfl, rfl, rfl, by simp [World.setCell], fun k _ hk => Below.heap_setCell _ _ _ _ (fun e => hk (by simp [e]))⟩ (Or.inr hne)
theorem others_setCell (w : World) (b : Nat) (j : Nat) (v : Value) : Lib.OthersKept 5 (some b) w (w.setCell ⟨b, j, none⟩ v) := fun k o hk hb _ => by
  rw [Below.heap_setCell w ⟨b, j, none⟩ v k (fun e => hb (by simp at e; rw [e]))]
  exact hk
theorem others_grown {w w' : World} {b base n : Nat} {v : Value} {xs : List Value} (hown : w.ownsRow base 5 1 v n xs) (hg : w.grownBy w' v.ownBlock) : Lib.OthersKept 5 (some b) w w' := fun k o hk hb ho => by
  rw [hg.block k (heap_lt hk) ?_]
  · exact hk
  · intro e
    rcases hown.2 with ⟨rfl, _⟩ | ⟨g, cap, cur, rfl, _, hh, _⟩
    · simp [Value.ownBlock] at e
    · simp only [Value.ownBlock, Option.some.injEq] at e
      subst e
      rw [hk] at hh
      injection hh with hh
      exact ho _ _ hh
theorem row_others {w w' : World} {g t e : Nat} {v : Nat} {cs : Array Value} (h : RowB w g t cs) (ho : Lib.OthersKept e (some v) w w') (hv : g ≠ v) (ht : t ≠ e) : RowB w' g t cs :=
  ho g _ h (fun hh => hv (by injection hh)) (fun c fz hh => ht (by injection hh))

set_option maxHeartbeats 1000000 in
set_option maxRecDepth 100000 in
theorem copyCheck_used (b : Nat) (w : World) (h0 : w.cell? ⟨b, 0, none⟩ = some (.pointer (some ⟨b, 0, none⟩))) :
    Calls Tryz.prog 86 #[.pointer (some ⟨b, 0, none⟩)] w fun e w' => e = .returned (.tuple #[]) ∧ w = w' := by
  obtain ⟨j, hj, _⟩ := Option.map_eq_some_iff.1 infoB
  have hq := fun w => Lib.run_neq_ptr_same (P := Tryz.prog) w ⟨b, 0, none⟩ Tryz.underlying57 hj
  go_enter Tryz.func86, Tryz.ntmps86
  go_wp2
  go_end0
  exact ⟨rfl, rfl⟩

set_option maxHeartbeats 1000000 in
set_option maxRecDepth 100000 in
theorem copyCheck_fresh (b : Nat) (w : World) (h0 : w.cell? ⟨b, 0, none⟩ = some (.pointer none)) (hsh : w.shape? b = some (62, 2)) (hfz : w.frozen? ⟨b, 0, none⟩ = false) :
    Calls Tryz.prog 86 #[.pointer (some ⟨b, 0, none⟩)] w fun e w' => e = .returned (.tuple #[]) ∧ w' = w.setCell ⟨b, 0, none⟩ (.pointer (some ⟨b, 0, none⟩)) := by
  obtain ⟨j, hj, hjs⟩ := Option.map_eq_some_iff.1 infoB
  have hq := fun w => Lib.run_neq_ptr_same (P := Tryz.prog) w ⟨b, 0, none⟩ Tryz.underlying57 hj
  have hu := Lib.run_to_unsafe (P := Tryz.prog) w ⟨b, 0, none⟩ Tryz.underlying57 Tryz.underlying121 hj (by rw [hjs]; decide) hsh (Nat.zero_lt_succ 1)
  have hv := Lib.run_from_unsafe (P := Tryz.prog) w ⟨b, 0, none⟩ Tryz.underlying121 Tryz.underlying57 hj hsh liesB
  have HQ := Lib.hid hq
  have HU := Lib.hid hu
  have HV := Lib.hid hv
  clear hq hu hv
  go_enter Tryz.func86, Tryz.ntmps86
  go_wp2
  rw [HU.out]
  simp only [Result.andThen]
  rw [Oper.upon_value]
  go_wp2
  rw [run_callFunc_extern Tryz.func105 (by kernel_rfl) (by kernel_rfl) (by kernel_rfl) (e := Extern.AbiNoEscape.same) (by kernel_rfl), Lib.run_noEscape]
  simp only [Result.andThen]
  rw [Oper.upon_value]
  go_wp2
  rw [HV.out]
  simp only [Result.andThen]
  rw [Oper.upon_value]
  have hq := HQ.out
  go_wp2
  go_end0
  exact ⟨rfl, rfl⟩
theorem shape2 {w : World} {b : Nat} {a c : Value} (h : w.heap[b]? = some (.cells #[a, c] 62 (0, 0))) : w.shape? b = some (62, 2) := by
  simp [World.shape?, h]

/-- Behind copyCheck a builder knows its own address; nothing else has turned. -/
theorem copyCheck_any (B b : Nat) (bs : List Value) (w : World) (h : Prn B b bs w) :
    Calls Tryz.prog 86 #[.pointer (some ⟨b, 0, none⟩)] w fun e w' => e = .returned (.tuple #[]) ∧ PrnA B b (.pointer (some ⟨b, 0, none⟩)) bs w' ∧ Below B w w' ∧ Lib.OthersKept 5 (some b) w w' := by
  rcases h with h | h
  · obtain ⟨h1, v, h2, h3, h4⟩ := h
    refine (copyCheck_fresh b w (by rw [Lib.cell_of_heap h2]; rfl) (shape2 h2) (Lib.frozen_of_heap h2 0)).mono ?_
    rintro e w' ⟨rfl, rfl⟩
    refine ⟨rfl, ⟨h1, v, ?_, ?_, h4⟩, (Below.refl B w).setCell (p := ⟨b, 0, none⟩) h1 _, others_setCell _ _ _ _⟩
    · simp [World.setCell, Array.getElem?_modify, h2]
    · exact h3.kept (row := some b) ⟨rfl, rfl, rfl, by simp [World.setCell], fun k _ hk => Below.heap_setCell _ _ _ _ (fun e => hk (by simp [e]))⟩ (Or.inr h4)
  · have h' := h
    obtain ⟨h1, v, h2, h3, h4⟩ := h
    refine (copyCheck_used b w (by rw [Lib.cell_of_heap h2]; rfl)).mono ?_
    rintro e w' ⟨rfl, rfl⟩
    exact ⟨rfl, h', Below.refl B _, Lib.OthersKept.refl _ _ _⟩

set_option maxHeartbeats 2000000 in
set_option maxRecDepth 100000 in
theorem write_any (B b : Nat) (bs : List Value) (s : ByteArray) (w : World) (h : Prn B b bs w) (hlen : bs.length + s.size ≤ 140737488355328) (hBw : B ≤ w.heap.size) :
    Calls Tryz.prog 67 #[.pointer (some ⟨b, 0, none⟩), .string s] w fun e w' => e = .returned (.tuple #[.int .i64 s.size, .nilIface]) ∧ Prn B b (bs ++ Lib.strCells s) w' ∧ Below B w w' ∧ Lib.OthersKept 5 (some b) w w' := by
  obtain ⟨i0, hi, hz0, hz1, hz2⟩ := info_parts infoU
  go_enter Tryz.func67, Tryz.ntmps67
  go_wp2_with fail
  refine (copyCheck_any B b bs _ h).mono ?_
  rintro e w1 ⟨rfl, h1, hb1, ho1⟩
  have HO1 := Lib.hid ho1
  clear ho1
  obtain ⟨hB, v, hbk, hown, hne⟩ := h1
  have c0 : w1.cell? ⟨b, 0, none⟩ = some (.pointer (some ⟨b, 0, none⟩)) := by rw [Lib.cell_of_heap hbk]; rfl
  have c1 : w1.cell? ⟨b, 1, none⟩ = some v := by rw [Lib.cell_of_heap hbk]; rfl
  go_wp2_with (at_builtin; refine Lib.wpList_append_own_string _ rfl _ _ 58 9 rfl B 5 i0 Tryz.underlying58 Tryz.underlying9 hi hz0 hz1 hz2 _ _ _ rfl hown s rfl ?c3 ?c4 ?c5 ?_)
  case c3 => unfold maxLen; omega
  case c4 => omega
  case c5 => have := hb1.size; omega
  intro v' w2 hown' hgrow _
  have hlt : b < w1.heap.size := heap_lt hbk
  have hb2 : w2.heap[b]? = some (.cells #[.pointer (some ⟨b, 0, none⟩), v] 62 (0, 0)) := by
    rw [hgrow.block b hlt (fun e => hne e.symm)]
    exact hbk
  have d0 : w2.cell? ⟨b, 0, none⟩ = some (.pointer (some ⟨b, 0, none⟩)) := by rw [Lib.cell_of_heap hb2]; rfl
  have d1 : w2.cell? ⟨b, 1, none⟩ = some v := by rw [Lib.cell_of_heap hb2]; rfl
  have f1 : w2.frozen? ⟨b, 1, none⟩ = false := Lib.frozen_of_heap hb2 1
  obtain ⟨ao, n', cap, rfl⟩ : ∃ ao n' cap, v' = .slice ao n' cap := by
    rcases hown'.2 with ⟨hv, _⟩ | ⟨g, cap, cur, hv, _⟩
    · exact ⟨_, _, _, hv⟩
    · exact ⟨_, _, _, hv⟩
  have R1 := Lib.hid (PrnA.put hB hb2 (bs' := bs ++ Lib.strCells s) (by simpa [Lib.strCells_length] using hown'))
  have R2 := Lib.hid ((hb1.grown hgrow (by have := hb1.size; omega) (fun k hk => (hown.lt k hk).1)).setCell (p := ⟨b, 1, none⟩) hB (.slice ao n' cap))
  have R3 := Lib.hid ((HO1.out.trans (others_grown hown hgrow)).trans (others_setCell w2 b 1 (.slice ao n' cap)))
  clear hown hown' hgrow hb1
  go_wp2
  go_ret2
  exact ⟨rfl, .inr R1.out, R2.out, R3.out⟩

end Go.Proofs.YtifkjngclkklfaaGreatDoor
/- Contracts: a writer in the midst of a call; its text. -/
namespace Go.Proofs.YtifkjngclkklfaaGreatDoor
open Go.RowKit
namespace Tm
theorem bc_app (bs : List Value) (x y : List UInt8) : bs ++ Lib.byteCells x ++ Lib.byteCells y = bs ++ Lib.byteCells (x ++ y) := by simp [Lib.byteCells]
theorem sc_bc (s : ByteArray) : Lib.strCells s = Lib.byteCells s.data.toList := rfl
/-- What a call that writes comes to. -/
def Wrt (B b : Nat) (bs : List Value) (x : List UInt8) (w : World) (e : Ending) (w' : World) : Prop := e = .returned (.tuple #[]) ∧ Prn B b (bs ++ Lib.byteCells x) w' ∧ Below B w w' ∧ Lib.OthersKept 5 (some b) w w'
def lim : Nat := 140737488355328
/-- In the midst of a call that writes. -/
structure Pw (B b : Nat) (bs : List Value) (X : List UInt8) (w0 w : World) : Prop where
  p : Prn B b (bs ++ Lib.byteCells X) w
  bl : Below B w0 w
  oth : Lib.OthersKept 5 (some b) w0 w
  bw : B ≤ w0.heap.size
  lt : b < w0.heap.size
section
variable {B b : Nat} {bs : List Value} {X Y : List UInt8} {w0 w w' : World}
theorem Pw.start (h : Prn B b bs w) (hb : B ≤ w.heap.size) : Pw B b bs [] w w := ⟨by simpa [Lib.byteCells] using h, Below.refl _ _, Lib.OthersKept.refl _ _ _, hb, h.lt.1⟩
theorem Pw.size (h : Pw B b bs X w0 w) : B ≤ w.heap.size ∧ w0.heap.size ≤ w.heap.size := by
  have := h.bl.size; have := h.bw; omega
theorem Pw.step (h : Pw B b bs X w0 w) {e : Ending} (hw : Wrt B b (bs ++ Lib.byteCells X) Y w e w') : e = .returned (.tuple #[]) ∧ Pw B b bs (X ++ Y) w0 w' := by
  obtain ⟨h1, h2, h3, h4⟩ := hw
  rw [bc_app] at h2
  exact ⟨h1, h2, h.bl.trans h3, h.oth.trans h4, h.bw, h.lt⟩
theorem others_below {e : TypeId} {b : Option Nat} (hb : Below w.heap.size w w') : Lib.OthersKept e b w w' := fun j o ho _ _ => by
  rw [hb.block j (heap_lt ho)]
  exact ho
theorem Pw.other (h : Pw B b bs X w0 w) (hb : Below w.heap.size w w') : Pw B b bs X w0 w' :=
  ⟨h.p.below hb, h.bl.trans (hb.mono h.size.1), h.oth.trans (others_below hb), h.bw, h.lt⟩
theorem Pw.row (h : Pw B b bs X w0 w) {g t : Nat} {cs : Array Value} (hr : RowB w0 g t cs) (hg : g ≠ b) (ht : t ≠ 5) : RowB w g t cs := row_others hr h.oth hg ht
theorem Pw.ti (h : Pw B b bs X w0 w) {t : Ty} {An : Option Addr} {cn : Nat} {A : Option Addr} {c : Nat} (hk : TI w0 (fun g => g < B) t An cn A c) : TI w (fun g => g < B) t An cn A c :=
  hk.keep h.bl.size (fun g hg _ => ⟨h.bl.block g hg, hg⟩)
theorem Pw.tv (h : Pw B b bs X w0 w) {k : List Ty} {A : Option Addr} {c : Nat} (hk : TV w0 (fun g => g < B) k A c) : TV w (fun g => g < B) k A c :=
  hk.keep h.bl.size (fun g hg _ => ⟨h.bl.block g hg, hg⟩)
theorem Pw.nv (h : Pw B b bs X w0 w) {k : List ByteArray} {A : Option Addr} {c : Nat} (hk : NV w0 (fun g => g < B) k A c) : NV w (fun g => g < B) k A c :=
  hk.keep h.bl.size (fun g hg _ => ⟨h.bl.block g hg, hg⟩)
theorem Pw.done (h : Pw B b bs X w0 w) : Wrt B b bs X w0 (.returned (.tuple #[])) w := ⟨rfl, h.p, h.bl, h.oth⟩
theorem Pw.cast (h : Pw B b bs X w0 w) (e : X = Y) : Pw B b bs Y w0 w := e ▸ h
theorem Pw.write (h : Pw B b bs X w0 w) (s : ByteArray) (x : List UInt8) (hx : s.data.toList = x) {L : Nat} (hl : bs.length + L ≤ lim) (hL : X.length + x.length ≤ L) :
    Calls Tryz.prog 67 #[.pointer (some ⟨b, 0, none⟩), .string s] w (fun e w' => e = .returned (.tuple #[.int .i64 s.size, .nilIface]) ∧ Pw B b bs (X ++ x) w0 w') := by
  have hs : s.size = x.length := by rw [← hx]; simp
  refine (write_any B b _ s w h.p (by rw [List.length_append, Lib.byteCells_length]; unfold lim at hl; omega) h.size.1).mono ?_
  rintro e w2 ⟨rfl, h1, h2, h3⟩
  rw [sc_bc, bc_app, hx] at h1
  exact ⟨rfl, h1, h.bl.trans h2, h.oth.trans h3, h.bw, h.lt⟩
end
theorem cells5 : Tryz.prog.cellsOf 5 = 1 := by kernel_rfl

set_option maxHeartbeats 4000000 in
set_option maxRecDepth 100000 in
theorem string_w (B b : Nat) (l : List UInt8) (w : World) (h : Prn B b (Lib.byteCells l) w) (hB : B ≤ w.heap.size) :
    Calls Tryz.prog 47 #[.pointer (some ⟨b, 0, none⟩)] w fun e w' => e = .returned (.string ⟨l.toArray⟩) ∧ Below B w w' := by
  obtain ⟨p, v, hBb, hbk, hown, hne⟩ : ∃ p v, B ≤ b ∧ w.heap[b]? = some (.cells #[p, v] 62 (0, 0)) ∧ w.ownsRow B 5 1 v (Lib.byteCells l).length (Lib.byteCells l) ∧ v.ownBlock ≠ some b := by
    rcases h with ⟨h1, v, h2, h3, h4⟩ | ⟨h1, v, h2, h3, h4⟩ <;> exact ⟨_, v, h1, h2, h3, h4⟩
  have hblt := heap_lt hbk
  rw [Lib.byteCells_length] at hown
  have c0 : w.cell? ⟨b, 1, none⟩ = some v := by rw [Lib.cell_of_heap hbk]; rfl
  have c1 : w.drew.cell? ⟨b, 1, none⟩ = some v := c0
  have hUN : ∀ (q : Option Addr) (w' : World), (Builtin.unsafeString_ #[89, 3] 9 #[.pointer q, .int .i64 0]).run Tryz.prog w' = .ok (.string ⟨#[]⟩) w' := fun q w' => Lib.run_unsafeString_none (P := Tryz.prog) (w := w') 89 3 9 q
  by_cases hl : l = []
  · subst hl
    rcases hown.2 with ⟨rfl, _⟩ | ⟨g, cap, cur, rfl, hbg, hg, hnc, hcm, hcs, htake⟩
    · have hSD : ∀ w' : World, (Builtin.unsafeSliceData_ #[58] 89 #[.slice none 0 0]).run Tryz.prog w' = .ok (.pointer none) w' := fun _ => rfl
      clear h hown hne
      go_enter Tryz.func47, Tryz.ntmps47
      go_wp2
      go_region
      all_goals (go_wp2; go_ret; exact ⟨rfl, Below.drew (Below.refl B w)⟩)
    · by_cases hc0 : cap = 0
      · subst hc0
        have hSD : (Builtin.unsafeSliceData_ #[58] 89 #[.slice (some ⟨g, 0, none⟩) 0 0]).run Tryz.prog w.drew = .ok (.pointer (some ⟨w.drew.heap.size, 0, none⟩)) (w.drew.alloc (.view ⟨g, 0, none⟩ 5)) :=
          Lib.run_unsafeSliceData_zero (P := Tryz.prog) (w := w.drew) _ _ 5 Tryz.underlying89 ⟨g, 0, none⟩ 0 (5, cur.size) (by have hg' : w.drew.heap[g]? = some (.cells cur 5 (0, 0)) := hg; simp [World.shape?, hg'])
        have c2 : (w.drew.alloc (.view ⟨g, 0, none⟩ 5)).cell? ⟨b, 1, none⟩ = some (.slice (some ⟨g, 0, none⟩) 0 0) := by
          have : (w.drew.alloc (.view ⟨g, 0, none⟩ 5)).heap[b]? = _ := (Lib.alloc_old w.drew _ b hblt).trans hbk
          rw [Lib.cell_of_heap this]; rfl
        have c3 : (w.alloc (.view ⟨g, 0, none⟩ 5)).drew.cell? ⟨b, 1, none⟩ = some (.slice (some ⟨g, 0, none⟩) 0 0) := c2
        clear h hown hne
        go_enter Tryz.func47, Tryz.ntmps47
        go_wp2
        go_region
        all_goals (go_wp2; go_ret; exact ⟨rfl, (Below.drew (Below.refl B w)).alloc hB _⟩)
      · have hSD : ∀ w' : World, (Builtin.unsafeSliceData_ #[58] 89 #[.slice (some ⟨g, 0, none⟩) 0 cap]).run Tryz.prog w' = .ok (.pointer (some ⟨g, 0, none⟩)) w' := fun w' => Lib.run_unsafeSliceData_row (P := Tryz.prog) (w := w') _ _ _ _ _ hc0
        clear h hown hne hc0
        go_enter Tryz.func47, Tryz.ntmps47
        go_wp2
        go_region
        all_goals (go_wp2; go_ret; exact ⟨rfl, Below.drew (Below.refl B w)⟩)
  · have hl0 : l.length ≠ 0 := by simpa using hl
    obtain ⟨g, cap, cur, rfl, hbg, hg, hnc, hcm, hcs, htake⟩ : ∃ g cap cur, v = .slice (some ⟨g, 0, none⟩) l.length cap ∧ B ≤ g ∧ w.heap[g]? = some (.cells cur 5 (0, 0)) ∧ l.length ≤ cap ∧ cap ≤ maxLen ∧ cur.size = cap * 1 ∧ cur.toList.take (l.length * 1) = Lib.byteCells l := by
      rcases hown.2 with ⟨_, hz⟩ | ⟨g, cap, cur, hv, r⟩
      · exact absurd hz hl0
      · exact ⟨g, cap, cur, hv, r⟩
    have hSD : ∀ w' : World, (Builtin.unsafeSliceData_ #[58] 89 #[.slice (some ⟨g, 0, none⟩) l.length cap]).run Tryz.prog w' = .ok (.pointer (some ⟨g, 0, none⟩)) w' := fun w' => Lib.run_unsafeSliceData_row (P := Tryz.prog) (w := w') _ _ _ _ _ (by omega)
    have hUS : (Builtin.unsafeString_ #[89, 3] 9 #[.pointer (some ⟨g, 0, none⟩), .int .i64 l.length]).run Tryz.prog w.drew = .ok (.string ⟨l.toArray⟩) (w.drew.freeze ⟨g, 0, none⟩ l.length) := by
      refine Lib.run_unsafeString_row (P := Tryz.prog) w.drew 89 3 9 5 Tryz.underlying89 cells5 g cur.size (by have hg' : w.drew.heap[g]? = some (.cells cur 5 (0, 0)) := hg; simp [World.shape?, hg']) l hl (by omega) (by unfold maxLen at hcm; omega) ?_
      intro j x hx
      exact hown.cells (g := g) rfl j (.int .u8 x.toNat) (by simp [Lib.byteCells, hx])
    clear h hown hne hl hl0 hUN htake
    go_enter Tryz.func47, Tryz.ntmps47
    go_wp2
    go_region
    all_goals (go_wp2; go_ret; exact ⟨rfl, Lib.below_freeze (Below.drew (Below.refl B w)) (p := ⟨g, 0, none⟩) hbg _⟩)
end Tm
end Go.Proofs.YtifkjngclkklfaaGreatDoor
/- What a type's text is; contracts: parts written with commas between. -/
namespace Go.Proofs.YtifkjngclkklfaaGreatDoor
open Go.RowKit Go.Op
namespace Tm
/-- Pieces with commas between. -/
def joinB : List (List UInt8) → List UInt8
  | [] => []
  | x :: l => x ++ l.flatMap fun y => [44, 32] ++ y
theorem joinB_step {l : List (List UInt8)} {i : Nat} {x : List UInt8} (h : l[i]? = some x) : joinB (l.take (i + 1)) = joinB (l.take i) ++ (if i = 0 then [] else [44, 32]) ++ x := by
  cases l with
  | nil => simp at h
  | cons a l =>
    cases i with
    | zero =>
      obtain rfl : a = x := by simpa using h
      simp [joinB]
    | succ i =>
      have h' : l[i]? = some x := by simpa using h
      rw [List.take_succ_cons, List.take_succ_cons, joinB, joinB, List.take_add_one, h', if_neg (by omega)]
      simp [List.flatMap_append]
theorem joinB_le (l : List (List UInt8)) (i : Nat) : (joinB (l.take i)).length ≤ (joinB l).length := by
  cases l with
  | nil => simp
  | cons a l =>
    cases i with
    | zero => simp [joinB]
    | succ i =>
      have e := congrArg (fun z => (List.flatMap (fun y => ([44, 32] : List UInt8) ++ y) z).length) (List.take_append_drop i l)
      simp only [List.flatMap_append, List.length_append] at e
      rw [List.take_succ_cons, joinB, joinB, List.length_append, List.length_append]
      omega
def plainB (k : Int) : List UInt8 := if k = 0 then [100, 121, 110] else if k = 1 then [105, 110, 116] else [115, 116, 114]
/-- Labels ahead of parts' texts. -/
def recB : List ByteArray → List (List UInt8) → List (List UInt8)
  | n :: ns, x :: xs => (n.data.toList ++ [58, 32] ++ x) :: recB ns xs
  | _, _ => []
mutual
/-- A type's text. -/
def Ty.text : Ty → List UInt8
  | .mk k ns ps => if k = 3 then [123] ++ joinB (recB ns (textL ps)) ++ [125]
    else if k = 4 then [102, 110, 40] ++ joinB ((textL ps).take (ps.length - 1)) ++ [41, 58, 32] ++ ((textL ps).getLast?.getD []) else plainB k
def textL : List Ty → List (List UInt8)
  | [] => []
  | t :: ts => t.text :: textL ts
end
theorem textL_map : ∀ l : List Ty, textL l = l.map Ty.text
  | [] => rfl
  | t :: ts => by rw [textL, List.map_cons, textL_map ts]
theorem recB_get : ∀ {ns : List ByteArray} {xs : List (List UInt8)} {i : Nat} {n : ByteArray} {x : List UInt8}, ns[i]? = some n → xs[i]? = some x → (recB ns xs)[i]? = some (n.data.toList ++ [58, 32] ++ x)
  | [], _, i, n, x, h, _ => by simp at h
  | _ :: _, [], i, n, x, _, h => by simp at h
  | a :: ns, y :: xs, 0, n, x, h, h' => by
    obtain rfl : a = n := by simpa using h
    obtain rfl : y = x := by simpa using h'
    simp [recB]
  | a :: ns, y :: xs, i + 1, n, x, h, h' => by
    rw [recB, List.getElem?_cons_succ]
    exact recB_get (by simpa using h) (by simpa using h')
theorem recB_len : ∀ {ns : List ByteArray} {xs : List (List UInt8)}, ns.length = xs.length → (recB ns xs).length = xs.length
  | [], [], _ => rfl
  | [], _ :: _, h => by simp at h
  | _ :: _, [], h => by simp at h
  | _ :: ns, _ :: xs, h => by rw [recB, List.length_cons, List.length_cons, recB_len (by simpa using h)]
theorem write_w {B b : Nat} {bs : List Value} {w : World} (h : Prn B b bs w) (s : ByteArray) (x : List UInt8) (hx : s.data.toList = x) (hl : bs.length + x.length ≤ lim) (hB : B ≤ w.heap.size) :
    Calls Tryz.prog 67 #[.pointer (some ⟨b, 0, none⟩), .string s] w (fun e w' => e = .returned (.tuple #[.int .i64 s.size, .nilIface]) ∧ Wrt B b bs x w (.returned (.tuple #[])) w') := by
  have hs : s.size = x.length := by rw [← hx]; simp
  refine (write_any B b _ s w h (by unfold lim at hl; omega) hB).mono ?_
  rintro e w2 ⟨rfl, h1, h2, h3⟩
  rw [sc_bc, hx] at h1
  exact ⟨rfl, rfl, h1, h2, h3⟩
theorem Wrt.row {B b : Nat} {bs : List Value} {x : List UInt8} {w w' : World} {e : Ending} (h : Wrt B b bs x w e w') {g t : Nat} {cs : Array Value} (hr : RowB w g t cs) (hg : g ≠ b) (ht : t ≠ 5) : RowB w' g t cs := row_others hr h.2.2.2 hg ht
theorem Wrt.ti {B b : Nat} {bs : List Value} {x : List UInt8} {w w' : World} {e : Ending} (h : Wrt B b bs x w e w') {t : Ty} {An : Option Addr} {cn : Nat} {A : Option Addr} {c : Nat} (hk : TI w (fun g => g < B) t An cn A c) : TI w' (fun g => g < B) t An cn A c :=
  hk.keep h.2.2.1.size fun g hg _ => ⟨h.2.2.1.block g hg, hg⟩
/-- What is known of parts: their texts are written. -/
def TextIH (ps : List Ty) : Prop := ∀ p ∈ ps, ∀ (B b : Nat) (bs : List Value) (w : World) (An : Option Addr) (cn : Nat) (A : Option Addr) (c : Nat), Prn B b bs w → B ≤ w.heap.size → TI w (fun g => g < B) p An cn A c → bs.length + p.text.length ≤ lim →
  Calls Tryz.prog 46 #[.pointer (some ⟨b, 0, none⟩), tv p An cn A c] w (Wrt B b bs p.text w)
/-- A function value that writes what belongs ahead of part i. -/
def AheadV (B b : Nat) (bs : List Value) (w0 : World) (n : Nat) (hd : Nat → List UInt8) (v : Value) : Prop :=
  ∃ F caps, v = .func (.func F) #[] caps ∧ (∀ u w, (callFunc F (#[u] ++ caps)).run Tryz.prog w = .ok (.enter F (#[u] ++ caps)) w) ∧
    ∀ i, i < n → ∀ (X : List UInt8) (w' : World), Pw B b bs X w0 w' → bs.length + (X.length + (hd i).length) ≤ lim → Calls Tryz.prog F (#[.int .i64 (i : Int)] ++ caps) w' (Wrt B b (bs ++ Lib.byteCells X) (hd i) w')
set_option maxHeartbeats 8000000 in
set_option maxRecDepth 100000 in
theorem wlist_any (B b : Nat) (bs : List Value) (ps : List Ty) (hd : Nat → List UInt8) (pcs : List (List UInt8)) (A : Option Addr) (c : Nat) (v : Value) (w : World) (hp : Prn B b bs w) (hB : B ≤ w.heap.size) (hT : TV w (fun g => g < B) ps A c) (hl : ps.length ≤ 1000001) (IH : TextIH ps)
    (hv : AheadV B b bs w ps.length hd v) (hpc : pcs.length = ps.length ∧ ∀ i p, ps[i]? = some p → pcs[i]? = some (hd i ++ p.text)) (hL : bs.length + (joinB pcs).length ≤ lim) :
    Calls Tryz.prog 68 #[.pointer (some ⟨b, 0, none⟩), .slice A ps.length c, v] w (Wrt B b bs (joinB pcs) w) := by
  obtain ⟨F, caps, rfl, eF, hF⟩ := hv
  obtain ⟨n, hn⟩ : ∃ n, n = ps.length := ⟨_, rfl⟩
  rw [← hn] at hl hF hpc ⊢
  have HN := Lib.hid hn
  have HT := Lib.hid hT
  have HI := Lib.hid IH
  have HF := Lib.hid hF
  have HPC := Lib.hid hpc
  have P0 := Lib.hid (Pw.start hp hB)
  have hbl := hp.lt
  clear hn hT IH hF hpc hp
  go_enter Tryz.func68, Tryz.ntmps68
  go_wp2_with fail
  go_loopg [10] (n + 1) (fun kx s10 wr => ∃ i : Nat, s10 = .int .i64 i ∧ n - i ≤ kx ∧ i ≤ n ∧ Hid (Pw B b bs (joinB (pcs.take i)) w wr))
  case atStart => exact ⟨0, rfl, by omega, by omega, by unfold Hid; simpa [joinB] using P0.out⟩
  case round =>
    obtain ⟨i, rfl, hkx, hin, HP⟩ := hrel
    by_cases hi : i < n
    · have hil : (i : Int) < (n : Int) := by omega
      obtain ⟨t, e⟩ := get_of_lt (l := ps) (i := i) (by rw [← HN.out]; exact hi)
      obtain ⟨g, o, An2, cn2, A2, c2, hA, hPg, hg, hti, z0, z1, z2⟩ := (HP.out.tv HT.out).nth e
      have hpe := HPC.out.2 i t e
      have hstep := joinB_step hpe
      have hle := joinB_le pcs (i + 1)
      have hlen := congrArg List.length hstep
      simp only [List.length_append] at hlen
      obtain ⟨j, hj⟩ : ∃ j, j = i + 1 := ⟨_, rfl⟩
      rw [← hj] at hstep hle hlen
      have HST := Lib.hid hstep
      have b1 := bel1 wr (.cells (tarr t.kind An2 t.names.length cn2 A2 t.parts.length c2) 25)
      have hws := HP.out.size
      have P1 := Lib.hid (HP.out.other b1)
      have HTI := Lib.hid (hti.below b1)
      have RX := Lib.hid (RowB.new wr 25 (tarr t.kind An2 t.names.length cn2 A2 t.parts.length c2))
      obtain ⟨wx, hwx⟩ : ∃ wx, wx = wr.alloc (.cells (tarr t.kind An2 t.names.length cn2 A2 t.parts.length c2) 25) := ⟨_, rfl⟩
      rw [← hwx] at P1 HTI RX
      have hne : wr.heap.size ≠ b := by have := HP.out.bl.size; omega
      have HE := Lib.hid e
      have HM := Lib.hid (List.mem_of_getElem? e)
      have HWX := Lib.hid hwx
      have hLL : Hid (bs.length + (joinB pcs).length ≤ lim ∧ (joinB (pcs.take j)).length ≤ (joinB pcs).length) := ⟨hL, hle⟩
      have hn1 : Hid (i < n) := hi
      obtain ⟨X, hX⟩ : ∃ X, X = joinB (pcs.take i) := ⟨_, rfl⟩
      rw [← hX] at P1 HST hlen
      subst hA
      obtain ⟨kt, nt, pt⟩ := t
      simp only [tarr, kind_mk, names_mk, parts_mk] at z0 z1 z2 HWX RX
      have e2 := HWX.out
      have eV := eF (.int .i64 (i : Int))
      clear hti e hpe hstep hle b1 hwx hbl P0 HWX hX HP
      by_cases h0 : i = 0
      · subst h0
        simp only [Nat.zero_mul, Nat.add_zero] at z0 z1 z2
        simp only [if_true, List.append_nil] at HST hlen
        have hlen2 : (joinB (pcs.take j)).length = X.length + ((hd 0).length + (Ty.mk kt nt pt).text.length) := by rw [HST.out]; simp only [List.length_append]
        have C2 := Lib.hid (HF.out 0 hn1.out X _ P1.out (by have := hLL.out; omega))
        go_wp2_with fail
        rw [← e2]
        refine C2.out.mono ?_
        rintro e w2 hw2
        obtain ⟨rfl, h2⟩ := P1.out.step hw2
        have P2 := Lib.hid h2
        have RX2 := Lib.hid (hw2.row RX.out hne (by decide))
        have HTI2 := Lib.hid (hw2.ti HTI.out)
        have rx := RX2.out.cell
        clear h2 C2 hw2
        have C3 := Lib.hid (HI.out _ HM.out B b _ w2 An2 cn2 A2 c2 P2.out.p P2.out.size.1 HTI2.out (by have := hLL.out; rw [List.length_append, Lib.byteCells_length]; simp only [List.length_append]; omega))
        try simp only [tv, kind_mk, names_mk, parts_mk] at C3
        go_wp2_with fail
        refine C3.out.mono ?_
        rintro e w3 hw3
        obtain ⟨rfl, h3⟩ := P2.out.step hw3
        have P3 : Hid (Pw B b bs (joinB (pcs.take j)) w w3) := by unfold Hid; rw [HST.out]; simpa [List.append_assoc] using h3
        clear h3 hw3 C3 rx z0 z1 z2 e2
        go_wp2_with fail
        go_roundg (n - j)
        case measure => omega
        case rel => exact ⟨j, by rw [hj]; go_num, by omega, by omega, P3.out⟩
      · have hgt : (i : Int) > 0 := by omega
        simp only [h0, if_false] at HST hlen
        have hlen2 : (joinB (pcs.take j)).length = X.length + (2 + ((hd i).length + (Ty.mk kt nt pt).text.length)) := by rw [HST.out]; simp only [List.length_append, List.length_cons, List.length_nil]; omega
        have CW := Lib.hid (write_w P1.out.p ⟨#[44, 32]⟩ [44, 32] rfl (by have := hLL.out; rw [List.length_append, Lib.byteCells_length]; simp only [List.length_cons, List.length_nil]; omega) P1.out.size.1)
        go_wp2_with fail
        rw [← e2]
        refine CW.out.mono ?_
        rintro e w1 ⟨rfl, hw1⟩
        have P1b := Lib.hid (P1.out.step hw1).2
        have RX1 := Lib.hid (hw1.row RX.out hne (by decide))
        have HTI1 := Lib.hid (hw1.ti HTI.out)
        clear hw1 CW
        have C2 := Lib.hid (HF.out i hn1.out (X ++ [44, 32]) _ P1b.out (by have := hLL.out; simp only [List.length_append, List.length_cons, List.length_nil]; omega))
        go_wp2_with fail
        refine C2.out.mono ?_
        rintro e w2 hw2
        obtain ⟨rfl, h2⟩ := P1b.out.step hw2
        have P2 := Lib.hid h2
        have RX2 := Lib.hid (hw2.row RX1.out hne (by decide))
        have HTI2 := Lib.hid (hw2.ti HTI1.out)
        have rx := RX2.out.cell
        clear h2 C2 hw2
        have C3 := Lib.hid (HI.out _ HM.out B b _ w2 An2 cn2 A2 c2 P2.out.p P2.out.size.1 HTI2.out (by have := hLL.out; rw [List.length_append, Lib.byteCells_length]; simp only [List.length_append, List.length_cons, List.length_nil]; omega))
        try simp only [tv, kind_mk, names_mk, parts_mk] at C3
        go_wp2_with fail
        refine C3.out.mono ?_
        rintro e w3 hw3
        obtain ⟨rfl, h3⟩ := P2.out.step hw3
        have P3 : Hid (Pw B b bs (joinB (pcs.take j)) w w3) := by unfold Hid; rw [HST.out]; simpa [List.append_assoc] using h3
        clear h3 hw3 C3 rx z0 z1 z2 e2
        go_wp2_with fail
        go_roundg (n - j)
        case measure => omega
        case rel => exact ⟨j, by rw [hj]; go_num, by omega, by omega, P3.out⟩
    · have hil : ¬ (i : Int) < (n : Int) := by omega
      obtain rfl : i = n := by omega
      have hP := HP.out
      rw [List.take_of_length_le (by rw [HPC.out.1]; exact Nat.le_refl _)] at hP
      have HPP := Lib.hid hP
      clear hP hi
      go_wp2_with fail
      go_end0
      exact HPP.out.done
end Tm
end Go.Proofs.YtifkjngclkklfaaGreatDoor
/- Contracts: a type's text, written. -/
namespace Go.Proofs.YtifkjngclkklfaaGreatDoor
open Go.RowKit Go.Op
namespace Tm
/-- The function that writes nothing. -/
theorem ahead0_any (B b : Nat) (bs : List Value) (i : Int) (w : World) (h : Prn B b bs w) : Calls Tryz.prog 70 #[.int .i64 i] w (Wrt B b bs [] w) := by
  have hp : Prn B b (bs ++ Lib.byteCells []) w := by simpa [Lib.byteCells] using h
  have HP := Lib.hid hp
  clear h hp
  go_enter Tryz.func70, Tryz.ntmps70
  go_wp2_with fail
  go_end0
  exact ⟨rfl, HP.out, Below.refl _ _, Lib.OthersKept.refl _ _ _⟩
set_option maxHeartbeats 8000000 in
set_option maxRecDepth 100000 in
/-- The function that writes a label. -/
theorem ahead1_any (B b : Nat) (bs : List Value) (w : World) (p1 p2 : Nat) (k : Int) (ns : List ByteArray) (An : Option Addr) (cn : Nat) (A : Option Addr) (n c i : Nat) (s : ByteArray) (h : Prn B b bs w) (hB : B ≤ w.heap.size) (r1 : RowB w p1 82 #[.pointer (some ⟨b, 0, none⟩)]) (r2 : RowB w p2 25 (tarr k An ns.length cn A n c))
    (h1 : p1 ≠ b) (h2 : p2 ≠ b) (hN : NV w (fun g => g < B) ns An cn) (e : ns[i]? = some s) (hl : bs.length + (s.data.toList ++ [58, 32]).length ≤ lim) (_hl2 : ns.length ≤ 1000001) :
    Calls Tryz.prog 69 #[.int .i64 (i : Int), .pointer (some ⟨p1, 0, none⟩), .pointer (some ⟨p2, 0, none⟩)] w (Wrt B b bs (s.data.toList ++ [58, 32]) w) := by
  obtain ⟨g, o, hA, hP, hg, hc, hz⟩ := hN.nth e
  have hil := (List.getElem?_eq_some_iff.1 e).1
  obtain ⟨n0, hn0⟩ : ∃ n0, n0 = ns.length := ⟨_, rfl⟩
  rw [← hn0] at r2 hil
  subst hA
  have hl3 := hl
  rw [List.length_append] at hl3
  simp only [List.length_cons, List.length_nil] at hl3
  have D0 : Below w.heap.size w w.drew := Below.drew (Below.refl _ _)
  have C1 := Lib.hid (write_w (h.below D0) s s.data.toList rfl (by omega) hB)
  have HP0 := Lib.hid (Pw.start h hB)
  have R1 := Lib.hid r1
  have R2 := Lib.hid r2
  have hi1 : (i : Int) < (n0 : Int) := by omega
  have hi2 : ¬ (i : Int) < 0 := by omega
  clear h e hN hz hn0
  go_enter Tryz.func69, Tryz.ntmps69
  go_upto_region 0 with fail
  refine wp_region_G (S := SG (fun w' => RowB w' p1 82 #[.pointer (some ⟨b, 0, none⟩)] ∧ RowB w' p2 25 (tarr k (some ⟨g, o, none⟩) n0 cn A n c) ∧ w'.cell? ⟨g, o + i, none⟩ = some (.string s)) 99 (fun _ => True) 99 (fun _ => True)) (by kernel_rfl) ⟨⟨r1, r2, hc⟩, fun _ => trivial, fun _ => trivial⟩ (fun hS => ?_)
  refine wpG_take0 (i := 0) (v := ?v1) rfl (by kernel_rfl) (by kernel_rfl) (by kernel_rfl) (by decide) (by decide) (fun _ _ _ h => h) hS (Or.inl ⟨by rfl, ?hy1⟩) ?rest1
  case hy1 => (intro w' hw; obtain ⟨q1, q2, u2⟩ := hw; have u0 := q1.cell; have u1 := q2.cell; go_simp; try with_reducible rfl)
  replace hS := SG.set (i := 0) (by decide) (by decide) hS
  try simp only [Act.put, List.setIfInBounds_toArray, List.set_cons_zero, List.set_cons_succ]
  refine wpG_take0 (i := 1) (v := ?v2) rfl (by kernel_rfl) (by kernel_rfl) (by kernel_rfl) (by decide) (by decide) (fun _ _ _ h => h) hS (Or.inl ⟨by rfl, ?hy2⟩) ?rest2
  case hy2 => (intro w' hw; obtain ⟨q1, q2, u2⟩ := hw; have u0 := q1.cell; have u1 := q2.cell; go_simp; try with_reducible rfl)
  replace hS := SG.set (i := 1) (by decide) (by decide) hS
  try simp only [Act.put, List.setIfInBounds_toArray, List.set_cons_zero, List.set_cons_succ]
  refine wpG_take0 (i := 2) (v := ?v3) rfl (by kernel_rfl) (by kernel_rfl) (by kernel_rfl) (by decide) (by decide) (fun _ _ _ h => h) hS (Or.inl ⟨by rfl, ?hy3⟩) ?rest3
  case hy3 => (intro w' hw; obtain ⟨q1, q2, u2⟩ := hw; have u0 := q1.cell; have u1 := q2.cell; go_simp; try with_reducible rfl)
  replace hS := SG.set (i := 2) (by decide) (by decide) hS
  try simp only [Act.put, List.setIfInBounds_toArray, List.set_cons_zero, List.set_cons_succ]
  refine wpG_take0 (i := 3) (v := ?v4) rfl (by kernel_rfl) (by kernel_rfl) (by kernel_rfl) (by decide) (by decide) (fun _ _ _ h => h) hS (Or.inl ⟨by rfl, ?hy4⟩) ?rest4
  case hy4 => (intro w' hw; obtain ⟨q1, q2, u2⟩ := hw; have u0 := q1.cell; have u1 := q2.cell; go_simp; try with_reducible rfl)
  replace hS := SG.set (i := 3) (by decide) (by decide) hS
  try simp only [Act.put, List.setIfInBounds_toArray, List.set_cons_zero, List.set_cons_succ]
  refine wpG_take0 (i := 4) (v := ?v5) rfl (by kernel_rfl) (by kernel_rfl) (by kernel_rfl) (by decide) (by decide) (fun _ _ _ h => h) hS (Or.inl ⟨by rfl, ?hy5⟩) ?rest5
  case hy5 => (intro w' hw; obtain ⟨q1, q2, u2⟩ := hw; have u0 := q1.cell; have u1 := q2.cell; go_simp; try with_reducible rfl)
  replace hS := SG.set (i := 4) (by decide) (by decide) hS
  try simp only [Act.put, List.setIfInBounds_toArray, List.set_cons_zero, List.set_cons_succ]
  refine wpG_take0 (i := 5) (v := ?v6) rfl (by kernel_rfl) (by kernel_rfl) (by kernel_rfl) (by decide) (by decide) (fun _ _ _ h => h) hS (Or.inl ⟨by rfl, ?hy6⟩) ?rest6
  case hy6 => (intro w' hw; obtain ⟨q1, q2, u2⟩ := hw; have u0 := q1.cell; have u1 := q2.cell; go_simp; try with_reducible rfl)
  replace hS := SG.set (i := 5) (by decide) (by decide) hS
  try simp only [Act.put, List.setIfInBounds_toArray, List.set_cons_zero, List.set_cons_succ]
  refine wpG_take0 (i := 6) (v := ?v7) rfl (by kernel_rfl) (by kernel_rfl) (by kernel_rfl) (by decide) (by decide) (fun _ _ _ h => h) hS (Or.inl ⟨by rfl, ?hy7⟩) ?rest7
  case hy7 => (intro w' hw; obtain ⟨q1, q2, u2⟩ := hw; have u0 := q1.cell; have u1 := q2.cell; go_simp; try with_reducible rfl)
  replace hS := SG.set (i := 6) (by decide) (by decide) hS
  try simp only [Act.put, List.setIfInBounds_toArray, List.set_cons_zero, List.set_cons_succ]
  refine wpG_take0 (i := 7) (v := ?v8) rfl (by kernel_rfl) (by kernel_rfl) (by kernel_rfl) (by decide) (by decide) (fun _ _ _ h => h) hS (Or.inl ⟨by rfl, ?hy8⟩) ?rest8
  case hy8 => (intro w' hw; obtain ⟨q1, q2, u2⟩ := hw; have u0 := q1.cell; have u1 := q2.cell; go_simp; try with_reducible rfl)
  replace hS := SG.set (i := 7) (by decide) (by decide) hS
  try simp only [Act.put, List.setIfInBounds_toArray, List.set_cons_zero, List.set_cons_succ]
  refine wpG_ready (rs := [8]) (by kernel_rfl) (by simp) ?_
  refine RG.cons rfl rfl (fun K hK => ?_) RG.nil
  go_simp
  refine C1.out.mono ?_
  rintro e w1 ⟨rfl, hw1⟩
  go_wp2_with fail
  have T1 := hw1.row r1 h1 (by decide)
  have T2 := hw1.row r2 h2 (by decide)
  have hc1 : w1.cell? ⟨g, o + i, none⟩ = some (.string s) := (hw1.2.2.1.cell (p := ⟨g, o + i, none⟩) hP).trans hc
  refine hK.out _ _ ⟨⟨T1, T2, hc1⟩, fun _ => trivial, fun _ => trivial⟩ (fun hS => ?_)
  clear hK K
  try simp only [Act.put, List.setIfInBounds_toArray, List.set_cons_zero, List.set_cons_succ]
  refine wpG_done (by kernel_rfl) ?_ _
  have hd : Pw B b bs [] w w.drew := HP0.out.other D0
  have P1 := Lib.hid (hd.step (by simpa [Lib.byteCells] using hw1)).2
  have C2 := Lib.hid (write_w P1.out.p ⟨#[58, 32]⟩ [58, 32] rfl (by rw [List.length_append, Lib.byteCells_length]; simp only [List.length_append, List.length_cons, List.length_nil]; omega) P1.out.size.1)
  have t1 := T1.cell
  clear hS hw1 T2 hc1 C1 hd r1 r2 R1 R2 hc
  go_wp2_with fail
  refine C2.out.mono ?_
  rintro e w2 ⟨rfl, hw2⟩
  have P2 := Lib.hid (P1.out.step hw2).2
  clear hw2 C2 t1 T1
  go_wp2_with fail
  go_end0
  exact (P2.out.cast (by simp)).done
end Tm
end Go.Proofs.YtifkjngclkklfaaGreatDoor
