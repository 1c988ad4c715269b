/- Contracts: a writer of texts that a call has made itself (strings.Builder). -/
import Derived.Test.YtbjlhdjcdinmhaaDoorQO
import Derived.Test.YtbjlhdjcdinmhaaDoorQQ
import Derived.Lib.Builder
import Derived.Lib.AppendStr
import Derived.Lib.OthersKept
import Derived.Lib.UnsafeStr
import Derived.RegionTactic
namespace Go.Proofs.YtbjlhdjcdinmhaaDoor
open Go.RowKit

theorem own_below {w w' : World} {base e size n : Nat} {v : Value} {xs : List Value} (h : w.ownsRow base e size v n xs) (hb : Below w.heap.size w w') : w'.ownsRow base e size v n xs := by
  have hlt := h.lt
  refine ⟨h.1, ?_⟩
  rcases h.2 with ⟨hv, hn⟩ | ⟨g, cap, cur, rfl, h1, h2, h3⟩
  · exact .inl ⟨hv, hn⟩
  · exact .inr ⟨g, cap, cur, rfl, h1, (hb.block g (hlt g rfl).2).trans h2, h3⟩
theorem infoB : (Tryd.prog.info? 72).map (·.size) = some 2 := by kernel_rfl
theorem liesB : liesAt Tryd.prog Tryd.prog.depth 74 (2 / Tryd.prog.cellsOf 74) 0 72 1 = true := by kernel_rfl
theorem infoU : (Tryd.prog.info? 5).map (fun i => (i.zero, i.size, i.bytes)) = some (some (.int .u8 0), 1, 1) := by kernel_rfl

/-- A printer in memory: what it has written, by a writer that a call has made itself. -/
def PrnA (B b : Nat) (p : Value) (bs : List Value) (w : World) : Prop :=
  B ≤ b ∧ ∃ v, w.heap[b]? = some (.cells #[p, v] 74 (0, 0)) ∧ w.ownsRow B 5 1 v bs.length bs ∧ v.ownBlock ≠ some b
def Prn (B b : Nat) (bs : List Value) (w : World) : Prop := PrnA B b (.pointer none) bs w ∨ PrnA B b (.pointer (some ⟨b, 0, none⟩)) bs w
theorem heap_lt {w : World} {b : Nat} {o : Obj} (h : w.heap[b]? = some o) : b < w.heap.size := by
  rcases Nat.lt_or_ge b w.heap.size with h' | h'
  · exact h'
  · rw [Array.getElem?_eq_none h'] at h; cases h
theorem PrnA.below {B b : Nat} {p : Value} {bs : List Value} {w w' : World} (h : PrnA B b p bs w) (hb : Below w.heap.size w w') : PrnA B b p bs w' := by
  obtain ⟨h1, v, h2, h3, h4⟩ := h
  refine ⟨h1, v, ?_, own_below h3 hb, h4⟩
  rw [hb.block b (heap_lt h2)]; exact h2
theorem Prn.below {B b : Nat} {bs : List Value} {w w' : World} (h : Prn B b bs w) (hb : Below w.heap.size w w') : Prn B b bs w' := by
  rcases h with h | h
  · exact .inl (h.below hb)
  · exact .inr (h.below hb)
theorem Prn.lt {B b : Nat} {bs : List Value} {w : World} (h : Prn B b bs w) : b < w.heap.size ∧ B ≤ b := by
  rcases h with ⟨h1, v, h2, _⟩ | ⟨h1, v, h2, _⟩ <;> exact ⟨heap_lt h2, h1⟩
theorem Prn.froz {B b : Nat} {bs : List Value} {w : World} (h : Prn B b bs w) (i : Nat) : w.frozen? ⟨b, i, none⟩ = false := by
  rcases h with ⟨h1, v, h2, _⟩ | ⟨h1, v, h2, _⟩ <;> exact Lib.frozen_of_heap h2 i
theorem PrnA.put {B b : Nat} {p v v' : Value} {bs' : List Value} {w : World} (hB : B ≤ b) (hb : w.heap[b]? = some (.cells #[p, v] 74 (0, 0))) (hown : w.ownsRow B 5 1 v' bs'.length bs') : PrnA B b p bs' (w.setCell ⟨b, 1, none⟩ v') := by
  have hne := Lib.ownBlock_ne hown hb (by decide)
  refine ⟨hB, v', ?_, ?_, hne⟩
  · simp [World.setCell, Array.getElem?_modify, hb]
  · exact hown.kept (row := some b) ⟨rfl, rfl, rfl, by simp [World.setCell], fun k _ hk => Below.heap_setCell _ _ _ _ (fun e => hk (by simp [e]))⟩ (Or.inr hne)
theorem others_setCell (w : World) (b : Nat) (j : Nat) (v : Value) : Lib.OthersKept 5 (some b) w (w.setCell ⟨b, j, none⟩ v) := fun k o hk hb _ => by
  rw [Below.heap_setCell w ⟨b, j, none⟩ v k (fun e => hb (by simp at e; rw [e]))]
  exact hk
theorem others_grown {w w' : World} {b base n : Nat} {v : Value} {xs : List Value} (hown : w.ownsRow base 5 1 v n xs) (hg : w.grownBy w' v.ownBlock) : Lib.OthersKept 5 (some b) w w' := fun k o hk hb ho => by
  rw [hg.block k (heap_lt hk) ?_]
  · exact hk
  · intro e
    rcases hown.2 with ⟨rfl, _⟩ | ⟨g, cap, cur, rfl, _, hh, _⟩
    · simp [Value.ownBlock] at e
    · simp only [Value.ownBlock, Option.some.injEq] at e
      subst e
      rw [hk] at hh
      injection hh with hh
      exact ho _ _ hh
theorem row_others {w w' : World} {g t e : Nat} {v : Nat} {cs : Array Value} (h : RowB w g t cs) (ho : Lib.OthersKept e (some v) w w') (hv : g ≠ v) (ht : t ≠ e) : RowB w' g t cs :=
  ho g _ h (fun hh => hv (by injection hh)) (fun c fz hh => ht (by injection hh))

set_option maxHeartbeats 1000000 in
set_option maxRecDepth 100000 in
theorem copyCheck_used (b : Nat) (w : World) (h0 : w.cell? ⟨b, 0, none⟩ = some (.pointer (some ⟨b, 0, none⟩))) :
    Calls Tryd.prog 68 #[.pointer (some ⟨b, 0, none⟩)] w fun e w' => e = .returned (.tuple #[]) ∧ w = w' := by
  obtain ⟨j, hj, _⟩ := Option.map_eq_some_iff.1 infoB
  have hq := fun w => Lib.run_neq_ptr_same (P := Tryd.prog) w ⟨b, 0, none⟩ Tryd.underlying69 hj
  go_enter Tryd.func68, Tryd.ntmps68
  go_wp2
  go_end0
  exact ⟨rfl, rfl⟩

set_option maxHeartbeats 1000000 in
set_option maxRecDepth 100000 in
theorem copyCheck_fresh (b : Nat) (w : World) (h0 : w.cell? ⟨b, 0, none⟩ = some (.pointer none)) (hsh : w.shape? b = some (74, 2)) (hfz : w.frozen? ⟨b, 0, none⟩ = false) :
    Calls Tryd.prog 68 #[.pointer (some ⟨b, 0, none⟩)] w fun e w' => e = .returned (.tuple #[]) ∧ w' = w.setCell ⟨b, 0, none⟩ (.pointer (some ⟨b, 0, none⟩)) := by
  obtain ⟨j, hj, hjs⟩ := Option.map_eq_some_iff.1 infoB
  have hq := fun w => Lib.run_neq_ptr_same (P := Tryd.prog) w ⟨b, 0, none⟩ Tryd.underlying69 hj
  have hu := Lib.run_to_unsafe (P := Tryd.prog) w ⟨b, 0, none⟩ Tryd.underlying69 Tryd.underlying103 hj (by rw [hjs]; decide) hsh (Nat.zero_lt_succ 1)
  have hv := Lib.run_from_unsafe (P := Tryd.prog) w ⟨b, 0, none⟩ Tryd.underlying103 Tryd.underlying69 hj hsh liesB
  have HQ := Lib.hid hq
  have HU := Lib.hid hu
  have HV := Lib.hid hv
  clear hq hu hv
  go_enter Tryd.func68, Tryd.ntmps68
  go_wp2
  rw [HU.out]
  simp only [Result.andThen]
  rw [Oper.upon_value]
  go_wp2
  rw [run_callFunc_extern Tryd.func74 (by kernel_rfl) (by kernel_rfl) (by kernel_rfl) (e := Extern.AbiNoEscape.same) (by kernel_rfl), Lib.run_noEscape]
  simp only [Result.andThen]
  rw [Oper.upon_value]
  go_wp2
  rw [HV.out]
  simp only [Result.andThen]
  rw [Oper.upon_value]
  have hq := HQ.out
  go_wp2
  go_end0
  exact ⟨rfl, rfl⟩
theorem shape2 {w : World} {b : Nat} {a c : Value} (h : w.heap[b]? = some (.cells #[a, c] 74 (0, 0))) : w.shape? b = some (74, 2) := by
  simp [World.shape?, h]

/-- Behind copyCheck a builder knows its own address; nothing else has turned. -/
theorem copyCheck_any (B b : Nat) (bs : List Value) (w : World) (h : Prn B b bs w) :
    Calls Tryd.prog 68 #[.pointer (some ⟨b, 0, none⟩)] w fun e w' => e = .returned (.tuple #[]) ∧ PrnA B b (.pointer (some ⟨b, 0, none⟩)) bs w' ∧ Below B w w' ∧ Lib.OthersKept 5 (some b) w w' := by
  rcases h with h | h
  · obtain ⟨h1, v, h2, h3, h4⟩ := h
    refine (copyCheck_fresh b w (by rw [Lib.cell_of_heap h2]; rfl) (shape2 h2) (Lib.frozen_of_heap h2 0)).mono ?_
    rintro e w' ⟨rfl, rfl⟩
    refine ⟨rfl, ⟨h1, v, ?_, ?_, h4⟩, (Below.refl B w).setCell (p := ⟨b, 0, none⟩) h1 _, others_setCell _ _ _ _⟩
    · simp [World.setCell, Array.getElem?_modify, h2]
    · exact h3.kept (row := some b) ⟨rfl, rfl, rfl, by simp [World.setCell], fun k _ hk => Below.heap_setCell _ _ _ _ (fun e => hk (by simp [e]))⟩ (Or.inr h4)
  · have h' := h
    obtain ⟨h1, v, h2, h3, h4⟩ := h
    refine (copyCheck_used b w (by rw [Lib.cell_of_heap h2]; rfl)).mono ?_
    rintro e w' ⟨rfl, rfl⟩
    exact ⟨rfl, h', Below.refl B _, Lib.OthersKept.refl _ _ _⟩

set_option maxHeartbeats 2000000 in
set_option maxRecDepth 100000 in
theorem write_any (B b : Nat) (bs : List Value) (s : ByteArray) (w : World) (h : Prn B b bs w) (hlen : bs.length + s.size ≤ 140737488355328) (hBw : B ≤ w.heap.size) :
    Calls Tryd.prog 58 #[.pointer (some ⟨b, 0, none⟩), .string s] w fun e w' => e = .returned (.tuple #[.int .i64 s.size, .nilIface]) ∧ Prn B b (bs ++ Lib.strCells s) w' ∧ Below B w w' ∧ Lib.OthersKept 5 (some b) w w' := by
  obtain ⟨i0, hi, hz0, hz1, hz2⟩ := info_parts infoU
  go_enter Tryd.func58, Tryd.ntmps58
  go_wp2_with fail
  refine (copyCheck_any B b bs _ h).mono ?_
  rintro e w1 ⟨rfl, h1, hb1, ho1⟩
  have HO1 := Lib.hid ho1
  clear ho1
  obtain ⟨hB, v, hbk, hown, hne⟩ := h1
  have c0 : w1.cell? ⟨b, 0, none⟩ = some (.pointer (some ⟨b, 0, none⟩)) := by rw [Lib.cell_of_heap hbk]; rfl
  have c1 : w1.cell? ⟨b, 1, none⟩ = some v := by rw [Lib.cell_of_heap hbk]; rfl
  go_wp2_with (at_builtin; refine Lib.wpList_append_own_string _ rfl _ _ 70 9 rfl B 5 i0 Tryd.underlying70 Tryd.underlying9 hi hz0 hz1 hz2 _ _ _ rfl hown s rfl ?c3 ?c4 ?c5 ?_)
  case c3 => unfold maxLen; omega
  case c4 => omega
  case c5 => have := hb1.size; omega
  intro v' w2 hown' hgrow _
  have hlt : b < w1.heap.size := heap_lt hbk
  have hb2 : w2.heap[b]? = some (.cells #[.pointer (some ⟨b, 0, none⟩), v] 74 (0, 0)) := by
    rw [hgrow.block b hlt (fun e => hne e.symm)]
    exact hbk
  have d0 : w2.cell? ⟨b, 0, none⟩ = some (.pointer (some ⟨b, 0, none⟩)) := by rw [Lib.cell_of_heap hb2]; rfl
  have d1 : w2.cell? ⟨b, 1, none⟩ = some v := by rw [Lib.cell_of_heap hb2]; rfl
  have f1 : w2.frozen? ⟨b, 1, none⟩ = false := Lib.frozen_of_heap hb2 1
  obtain ⟨ao, n', cap, rfl⟩ : ∃ ao n' cap, v' = .slice ao n' cap := by
    rcases hown'.2 with ⟨hv, _⟩ | ⟨g, cap, cur, hv, _⟩
    · exact ⟨_, _, _, hv⟩
    · exact ⟨_, _, _, hv⟩
  have R1 := Lib.hid (PrnA.put hB hb2 (bs' := bs ++ Lib.strCells s) (by simpa [Lib.strCells_length] using hown'))
  have R2 := Lib.hid ((hb1.grown hgrow (by have := hb1.size; omega) (fun k hk => (hown.lt k hk).1)).setCell (p := ⟨b, 1, none⟩) hB (.slice ao n' cap))
  have R3 := Lib.hid ((HO1.out.trans (others_grown hown hgrow)).trans (others_setCell w2 b 1 (.slice ao n' cap)))
  clear hown hown' hgrow hb1
  go_wp2
  go_ret2
  exact ⟨rfl, .inr R1.out, R2.out, R3.out⟩

namespace Vm
theorem bc_app (bs : List Value) (x y : List UInt8) : bs ++ Lib.byteCells x ++ Lib.byteCells y = bs ++ Lib.byteCells (x ++ y) := by simp [Lib.byteCells]
theorem sc_bc (s : ByteArray) : Lib.strCells s = Lib.byteCells s.data.toList := rfl
/-- What a call that writes comes to. -/
def Wrt (B b : Nat) (bs : List Value) (x : List UInt8) (w : World) (e : Ending) (w' : World) : Prop := e = .returned (.tuple #[]) ∧ Prn B b (bs ++ Lib.byteCells x) w' ∧ Below B w w' ∧ Lib.OthersKept 5 (some b) w w'
def lim : Nat := 140737488355328
/-- In the midst of a call that writes. -/
structure Pw (B b : Nat) (bs : List Value) (X : List UInt8) (w0 w : World) : Prop where
  p : Prn B b (bs ++ Lib.byteCells X) w
  bl : Below B w0 w
  oth : Lib.OthersKept 5 (some b) w0 w
  bw : B ≤ w0.heap.size
  lt : b < w0.heap.size
section
variable {B b : Nat} {bs : List Value} {X Y : List UInt8} {w0 w w' : World}
theorem Pw.start (h : Prn B b bs w) (hb : B ≤ w.heap.size) : Pw B b bs [] w w := ⟨by simpa [Lib.byteCells] using h, Below.refl _ _, Lib.OthersKept.refl _ _ _, hb, h.lt.1⟩
theorem Pw.size (h : Pw B b bs X w0 w) : B ≤ w.heap.size ∧ w0.heap.size ≤ w.heap.size := by
  have := h.bl.size; have := h.bw; omega
theorem Pw.step (h : Pw B b bs X w0 w) {e : Ending} (hw : Wrt B b (bs ++ Lib.byteCells X) Y w e w') : e = .returned (.tuple #[]) ∧ Pw B b bs (X ++ Y) w0 w' := by
  obtain ⟨h1, h2, h3, h4⟩ := hw
  rw [bc_app] at h2
  exact ⟨h1, h2, h.bl.trans h3, h.oth.trans h4, h.bw, h.lt⟩
theorem others_below {e : TypeId} {b : Option Nat} (hb : Below w.heap.size w w') : Lib.OthersKept e b w w' := fun j o ho _ _ => by
  rw [hb.block j (heap_lt ho)]
  exact ho
theorem Pw.other (h : Pw B b bs X w0 w) (hb : Below w.heap.size w w') : Pw B b bs X w0 w' :=
  ⟨h.p.below hb, h.bl.trans (hb.mono h.size.1), h.oth.trans (others_below hb), h.bw, h.lt⟩
theorem Pw.row (h : Pw B b bs X w0 w) {g t : Nat} {cs : Array Value} (hr : RowB w0 g t cs) (hg : g ≠ b) (ht : t ≠ 5) : RowB w g t cs := row_others hr h.oth hg ht
theorem Pw.ti (h : Pw B b bs X w0 w) {t : Vl} {An : Option Addr} {cn : Nat} {A : Option Addr} {c : Nat} (hk : VI w0 (fun g => g < B) t An cn A c) : VI w (fun g => g < B) t An cn A c :=
  hk.keep h.bl.size (fun g hg _ => ⟨h.bl.block g hg, hg⟩)
theorem Pw.tv (h : Pw B b bs X w0 w) {k : List Vl} {A : Option Addr} {c : Nat} (hk : VV w0 (fun g => g < B) k A c) : VV w (fun g => g < B) k A c :=
  hk.keep h.bl.size (fun g hg _ => ⟨h.bl.block g hg, hg⟩)
theorem Pw.nv (h : Pw B b bs X w0 w) {k : List ByteArray} {A : Option Addr} {c : Nat} (hk : NV w0 (fun g => g < B) k A c) : NV w (fun g => g < B) k A c :=
  hk.keep h.bl.size (fun g hg _ => ⟨h.bl.block g hg, hg⟩)
theorem Pw.done (h : Pw B b bs X w0 w) : Wrt B b bs X w0 (.returned (.tuple #[])) w := ⟨rfl, h.p, h.bl, h.oth⟩
theorem Pw.cast (h : Pw B b bs X w0 w) (e : X = Y) : Pw B b bs Y w0 w := e ▸ h
theorem Pw.write (h : Pw B b bs X w0 w) (s : ByteArray) (x : List UInt8) (hx : s.data.toList = x) {L : Nat} (hl : bs.length + L ≤ lim) (hL : X.length + x.length ≤ L) :
    Calls Tryd.prog 58 #[.pointer (some ⟨b, 0, none⟩), .string s] w (fun e w' => e = .returned (.tuple #[.int .i64 s.size, .nilIface]) ∧ Pw B b bs (X ++ x) w0 w') := by
  have hs : s.size = x.length := by rw [← hx]; simp
  refine (write_any B b _ s w h.p (by rw [List.length_append, Lib.byteCells_length]; unfold lim at hl; omega) h.size.1).mono ?_
  rintro e w2 ⟨rfl, h1, h2, h3⟩
  rw [sc_bc, bc_app, hx] at h1
  exact ⟨rfl, h1, h.bl.trans h2, h.oth.trans h3, h.bw, h.lt⟩
end
theorem cells5 : Tryd.prog.cellsOf 5 = 1 := by kernel_rfl

set_option maxHeartbeats 4000000 in
set_option maxRecDepth 100000 in
theorem string_w (B b : Nat) (l : List UInt8) (w : World) (h : Prn B b (Lib.byteCells l) w) (hB : B ≤ w.heap.size) :
    Calls Tryd.prog 42 #[.pointer (some ⟨b, 0, none⟩)] w fun e w' => e = .returned (.string ⟨l.toArray⟩) ∧ Below B w w' := by
  obtain ⟨p, v, hBb, hbk, hown, hne⟩ : ∃ p v, B ≤ b ∧ w.heap[b]? = some (.cells #[p, v] 74 (0, 0)) ∧ w.ownsRow B 5 1 v (Lib.byteCells l).length (Lib.byteCells l) ∧ v.ownBlock ≠ some b := by
    rcases h with ⟨h1, v, h2, h3, h4⟩ | ⟨h1, v, h2, h3, h4⟩ <;> exact ⟨_, v, h1, h2, h3, h4⟩
  have hblt := heap_lt hbk
  rw [Lib.byteCells_length] at hown
  have c0 : w.cell? ⟨b, 1, none⟩ = some v := by rw [Lib.cell_of_heap hbk]; rfl
  have c1 : w.drew.cell? ⟨b, 1, none⟩ = some v := c0
  have hUN : ∀ (q : Option Addr) (w' : World), (Builtin.unsafeString_ #[94, 3] 9 #[.pointer q, .int .i64 0]).run Tryd.prog w' = .ok (.string ⟨#[]⟩) w' := fun q w' => Lib.run_unsafeString_none (P := Tryd.prog) (w := w') 94 3 9 q
  by_cases hl : l = []
  · subst hl
    rcases hown.2 with ⟨rfl, _⟩ | ⟨g, cap, cur, rfl, hbg, hg, hnc, hcm, hcs, htake⟩
    · have hSD : ∀ w' : World, (Builtin.unsafeSliceData_ #[70] 94 #[.slice none 0 0]).run Tryd.prog w' = .ok (.pointer none) w' := fun _ => rfl
      clear h hown hne
      go_enter Tryd.func42, Tryd.ntmps42
      go_wp2
      go_region
      all_goals (go_wp2; go_ret; exact ⟨rfl, Below.drew (Below.refl B w)⟩)
    · by_cases hc0 : cap = 0
      · subst hc0
        have hSD : (Builtin.unsafeSliceData_ #[70] 94 #[.slice (some ⟨g, 0, none⟩) 0 0]).run Tryd.prog w.drew = .ok (.pointer (some ⟨w.drew.heap.size, 0, none⟩)) (w.drew.alloc (.view ⟨g, 0, none⟩ 5)) :=
          Lib.run_unsafeSliceData_zero (P := Tryd.prog) (w := w.drew) _ _ 5 Tryd.underlying94 ⟨g, 0, none⟩ 0 (5, cur.size) (by have hg' : w.drew.heap[g]? = some (.cells cur 5 (0, 0)) := hg; simp [World.shape?, hg'])
        have c2 : (w.drew.alloc (.view ⟨g, 0, none⟩ 5)).cell? ⟨b, 1, none⟩ = some (.slice (some ⟨g, 0, none⟩) 0 0) := by
          have : (w.drew.alloc (.view ⟨g, 0, none⟩ 5)).heap[b]? = _ := (Lib.alloc_old w.drew _ b hblt).trans hbk
          rw [Lib.cell_of_heap this]; rfl
        have c3 : (w.alloc (.view ⟨g, 0, none⟩ 5)).drew.cell? ⟨b, 1, none⟩ = some (.slice (some ⟨g, 0, none⟩) 0 0) := c2
        clear h hown hne
        go_enter Tryd.func42, Tryd.ntmps42
        go_wp2
        go_region
        all_goals (go_wp2; go_ret; exact ⟨rfl, (Below.drew (Below.refl B w)).alloc hB _⟩)
      · have hSD : ∀ w' : World, (Builtin.unsafeSliceData_ #[70] 94 #[.slice (some ⟨g, 0, none⟩) 0 cap]).run Tryd.prog w' = .ok (.pointer (some ⟨g, 0, none⟩)) w' := fun w' => Lib.run_unsafeSliceData_row (P := Tryd.prog) (w := w') _ _ _ _ _ hc0
        clear h hown hne hc0
        go_enter Tryd.func42, Tryd.ntmps42
        go_wp2
        go_region
        all_goals (go_wp2; go_ret; exact ⟨rfl, Below.drew (Below.refl B w)⟩)
  · have hl0 : l.length ≠ 0 := by simpa using hl
    obtain ⟨g, cap, cur, rfl, hbg, hg, hnc, hcm, hcs, htake⟩ : ∃ g cap cur, v = .slice (some ⟨g, 0, none⟩) l.length cap ∧ B ≤ g ∧ w.heap[g]? = some (.cells cur 5 (0, 0)) ∧ l.length ≤ cap ∧ cap ≤ maxLen ∧ cur.size = cap * 1 ∧ cur.toList.take (l.length * 1) = Lib.byteCells l := by
      rcases hown.2 with ⟨_, hz⟩ | ⟨g, cap, cur, hv, r⟩
      · exact absurd hz hl0
      · exact ⟨g, cap, cur, hv, r⟩
    have hSD : ∀ w' : World, (Builtin.unsafeSliceData_ #[70] 94 #[.slice (some ⟨g, 0, none⟩) l.length cap]).run Tryd.prog w' = .ok (.pointer (some ⟨g, 0, none⟩)) w' := fun w' => Lib.run_unsafeSliceData_row (P := Tryd.prog) (w := w') _ _ _ _ _ (by omega)
    have hUS : (Builtin.unsafeString_ #[94, 3] 9 #[.pointer (some ⟨g, 0, none⟩), .int .i64 l.length]).run Tryd.prog w.drew = .ok (.string ⟨l.toArray⟩) (w.drew.freeze ⟨g, 0, none⟩ l.length) := by
      refine Lib.run_unsafeString_row (P := Tryd.prog) w.drew 94 3 9 5 Tryd.underlying94 cells5 g cur.size (by have hg' : w.drew.heap[g]? = some (.cells cur 5 (0, 0)) := hg; simp [World.shape?, hg']) l hl (by omega) (by unfold maxLen at hcm; omega) ?_
      intro j x hx
      exact hown.cells (g := g) rfl j (.int .u8 x.toNat) (by simp [Lib.byteCells, hx])
    clear h hown hne hl hl0 hUN htake
    go_enter Tryd.func42, Tryd.ntmps42
    go_wp2
    go_region
    all_goals (go_wp2; go_ret; exact ⟨rfl, Lib.below_freeze (Below.drew (Below.refl B w)) (p := ⟨g, 0, none⟩) hbg _⟩)
end Vm
end Go.Proofs.YtbjlhdjcdinmhaaDoor
