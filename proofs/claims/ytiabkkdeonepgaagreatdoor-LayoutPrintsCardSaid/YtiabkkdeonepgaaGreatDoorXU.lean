import Derived.Test.YtiabkkdeonepgaaGreatDoorXR
import Derived.Test.YtiabkkdeonepgaaGreatDoorXD
import Derived.Lib.Builder
import Derived.Lib.AppendStr
import Derived.Lib.OthersKept
import Derived.Lib.UnsafeStr
import Derived.Deep.LoopGhost
import Derived.Test.YtiabkkdeonepgaaGreatDoorXI
import Derived.Test.YtiabkkdeonepgaaGreatDoorXE
import Derived.RegionTactic
import Derived.Deep.RegionHeld3
set_option maxRecDepth 100000
namespace Go.Proofs.YtiabkkdeonepgaaGreatDoor
open Go.RowKit
theorem infoB : (Tryz.prog.info? 49).map (·.size) = some 2 := by kernel_rfl
theorem liesB : liesAt Tryz.prog Tryz.prog.depth 51 (3 / Tryz.prog.cellsOf 51) 0 49 1 = true := by kernel_rfl
theorem infoU : (Tryz.prog.info? 5).map (fun i => (i.zero, i.size, i.bytes)) = some (some (.int .u8 0), 1, 1) := by kernel_rfl
def PrnA (B b : Nat) (p : Value) (bs : List Value) (k : Nat) (w : World) : Prop :=
  B ≤ b ∧ ∃ v, w.heap[b]? = some (.cells #[p, v, .int .i64 k] 51 (0, 0)) ∧ w.ownsRow B 5 1 v bs.length bs ∧ v.ownBlock ≠ some b
def Prn (B b : Nat) (bs : List Value) (k : Nat) (w : World) : Prop := PrnA B b (.pointer none) bs k w ∨ PrnA B b (.pointer (some ⟨b, 0, none⟩)) bs k w
theorem heap_lt {w : World} {b : Nat} {o : Obj} (h : w.heap[b]? = some o) : b < w.heap.size := by
  rcases Nat.lt_or_ge b w.heap.size with h' | h'
  · exact h'
  · rw [Array.getElem?_eq_none h'] at h; cases h
theorem PrnA.below {B b k : Nat} {p : Value} {bs : List Value} {w w' : World} (h : PrnA B b p bs k w) (hb : Below w.heap.size w w') : PrnA B b p bs k w' := by
  obtain ⟨h1, v, h2, h3, h4⟩ := h
  refine ⟨h1, v, ?_, own_below h3 hb, h4⟩
  rw [hb.block b (heap_lt h2)]; exact h2
theorem Prn.below {B b k : Nat} {bs : List Value} {w w' : World} (h : Prn B b bs k w) (hb : Below w.heap.size w w') : Prn B b bs k w' := by
  rcases h with h | h
  · exact .inl (h.below hb)
  · exact .inr (h.below hb)
theorem Prn.lt {B b k : Nat} {bs : List Value} {w : World} (h : Prn B b bs k w) : b < w.heap.size ∧ B ≤ b := by
  rcases h with ⟨h1, v, h2, _⟩ | ⟨h1, v, h2, _⟩ <;> exact ⟨heap_lt h2, h1⟩
theorem Prn.cell2 {B b k : Nat} {bs : List Value} {w : World} (h : Prn B b bs k w) : w.cell? ⟨b, 2, none⟩ = some (.int .i64 k) := by
  rcases h with ⟨h1, v, h2, _⟩ | ⟨h1, v, h2, _⟩ <;> (rw [Lib.cell_of_heap h2]; rfl)
theorem Prn.froz {B b k : Nat} {bs : List Value} {w : World} (h : Prn B b bs k w) (i : Nat) : w.frozen? ⟨b, i, none⟩ = false := by
  rcases h with ⟨h1, v, h2, _⟩ | ⟨h1, v, h2, _⟩ <;> exact Lib.frozen_of_heap h2 i
theorem PrnA.set2 {B b k : Nat} {p : Value} {bs : List Value} {w : World} (h : PrnA B b p bs k w) (m : Nat) : PrnA B b p bs m (w.setCell ⟨b, 2, none⟩ (.int .i64 m)) := by
  obtain ⟨h1, v, h2, h3, h4⟩ := h
  refine ⟨h1, v, ?_, ?_, h4⟩
  · simp [World.setCell, Array.getElem?_modify, h2]
  · exact h3.kept (row := some b) ⟨rfl, rfl, rfl, by simp [World.setCell], fun k _ hk => Below.heap_setCell _ _ _ _ (fun e => hk (by simp [e]))⟩ (Or.inr h4)
theorem Prn.set2 {B b k : Nat} {bs : List Value} {w : World} (h : Prn B b bs k w) (m : Nat) : Prn B b bs m (w.setCell ⟨b, 2, none⟩ (.int .i64 m)) := by
  rcases h with h | h
  · exact .inl (h.set2 m)
  · exact .inr (h.set2 m)
theorem PrnA.put {B b k : Nat} {p v v' : Value} {bs' : List Value} {w : World} (hB : B ≤ b) (hb : w.heap[b]? = some (.cells #[p, v, .int .i64 k] 51 (0, 0))) (hown : w.ownsRow B 5 1 v' bs'.length bs') : PrnA B b p bs' k (w.setCell ⟨b, 1, none⟩ v') := by
  have hne := Lib.ownBlock_ne hown hb (by decide)
  refine ⟨hB, v', ?_, ?_, hne⟩
  · simp [World.setCell, Array.getElem?_modify, hb]
  · exact hown.kept (row := some b) ⟨rfl, rfl, rfl, by simp [World.setCell], fun k _ hk => Below.heap_setCell _ _ _ _ (fun e => hk (by simp [e]))⟩ (Or.inr hne)
theorem others_setCell (w : World) (b : Nat) (j : Nat) (v : Value) : Lib.OthersKept 5 (some b) w (w.setCell ⟨b, j, none⟩ v) := fun k o hk hb _ => by
  rw [Below.heap_setCell w ⟨b, j, none⟩ v k (fun e => hb (by simp at e; rw [e]))]
  exact hk
theorem others_grown {w w' : World} {b base n : Nat} {v : Value} {xs : List Value} (hown : w.ownsRow base 5 1 v n xs) (hg : w.grownBy w' v.ownBlock) : Lib.OthersKept 5 (some b) w w' := fun k o hk hb ho => by
  rw [hg.block k (heap_lt hk) ?_]
  · exact hk
  · intro e
    rcases hown.2 with ⟨rfl, _⟩ | ⟨g, cap, cur, rfl, _, hh, _⟩
    · simp [Value.ownBlock] at e
    · simp only [Value.ownBlock, Option.some.injEq] at e
      subst e
      rw [hk] at hh
      injection hh with hh
      exact ho _ _ hh
theorem row_others {w w' : World} {g t e : Nat} {v : Nat} {cs : Array Value} (h : RowB w g t cs) (ho : Lib.OthersKept e (some v) w w') (hv : g ≠ v) (ht : t ≠ e) : RowB w' g t cs :=
  ho g _ h (fun hh => hv (by injection hh)) (fun c fz hh => ht (by injection hh))
set_option maxHeartbeats 1000000 in
theorem copyCheck_used (b : Nat) (w : World) (h0 : w.cell? ⟨b, 0, none⟩ = some (.pointer (some ⟨b, 0, none⟩))) :
    Calls Tryz.prog 68 #[.pointer (some ⟨b, 0, none⟩)] w fun e w' => e = .returned (.tuple #[]) ∧ w = w' := by
  obtain ⟨j, hj, _⟩ := Option.map_eq_some_iff.1 infoB
  have hq := fun w => Lib.run_neq_ptr_same (P := Tryz.prog) w ⟨b, 0, none⟩ Tryz.underlying46 hj
  go_enter Tryz.func68, Tryz.ntmps68
  go_wp2
  go_end0
  exact ⟨rfl, rfl⟩
set_option maxHeartbeats 1000000 in
theorem copyCheck_fresh (b : Nat) (w : World) (h0 : w.cell? ⟨b, 0, none⟩ = some (.pointer none)) (hsh : w.shape? b = some (51, 3)) (hfz : w.frozen? ⟨b, 0, none⟩ = false) :
    Calls Tryz.prog 68 #[.pointer (some ⟨b, 0, none⟩)] w fun e w' => e = .returned (.tuple #[]) ∧ w' = w.setCell ⟨b, 0, none⟩ (.pointer (some ⟨b, 0, none⟩)) := by
  obtain ⟨j, hj, hjs⟩ := Option.map_eq_some_iff.1 infoB
  have hq := fun w => Lib.run_neq_ptr_same (P := Tryz.prog) w ⟨b, 0, none⟩ Tryz.underlying46 hj
  have hu := Lib.run_to_unsafe (P := Tryz.prog) w ⟨b, 0, none⟩ Tryz.underlying46 Tryz.underlying120 hj (by rw [hjs]; decide) hsh (Nat.zero_lt_succ 2)
  have hv := Lib.run_from_unsafe (P := Tryz.prog) w ⟨b, 0, none⟩ Tryz.underlying120 Tryz.underlying46 hj hsh liesB
  have HQ := Lib.hid hq
  have HU := Lib.hid hu
  have HV := Lib.hid hv
  clear hq hu hv
  go_enter Tryz.func68, Tryz.ntmps68
  go_wp2
  rw [HU.out]
  simp only [Result.andThen]
  rw [Oper.upon_value]
  go_wp2
  rw [run_callFunc_extern Tryz.func103 (by kernel_rfl) (by kernel_rfl) (by kernel_rfl) (e := Extern.AbiNoEscape.same) (by kernel_rfl), Lib.run_noEscape]
  simp only [Result.andThen]
  rw [Oper.upon_value]
  go_wp2
  rw [HV.out]
  simp only [Result.andThen]
  rw [Oper.upon_value]
  have hq := HQ.out
  go_wp2
  go_end0
  exact ⟨rfl, rfl⟩
theorem shape3 {w : World} {b : Nat} {a c d : Value} (h : w.heap[b]? = some (.cells #[a, c, d] 51 (0, 0))) : w.shape? b = some (51, 3) := by
  simp [World.shape?, h]
theorem copyCheck_any (B b k : Nat) (bs : List Value) (w : World) (h : Prn B b bs k w) :
    Calls Tryz.prog 68 #[.pointer (some ⟨b, 0, none⟩)] w fun e w' => e = .returned (.tuple #[]) ∧ PrnA B b (.pointer (some ⟨b, 0, none⟩)) bs k w' ∧ Below B w w' ∧ Lib.OthersKept 5 (some b) w w' := by
  rcases h with h | h
  · obtain ⟨h1, v, h2, h3, h4⟩ := h
    refine (copyCheck_fresh b w (by rw [Lib.cell_of_heap h2]; rfl) (shape3 h2) (Lib.frozen_of_heap h2 0)).mono ?_
    rintro e w' ⟨rfl, rfl⟩
    refine ⟨rfl, ⟨h1, v, ?_, ?_, h4⟩, (Below.refl B w).setCell (p := ⟨b, 0, none⟩) h1 _, others_setCell _ _ _ _⟩
    · simp [World.setCell, Array.getElem?_modify, h2]
    · exact h3.kept (row := some b) ⟨rfl, rfl, rfl, by simp [World.setCell], fun k _ hk => Below.heap_setCell _ _ _ _ (fun e => hk (by simp [e]))⟩ (Or.inr h4)
  · have h' := h
    obtain ⟨h1, v, h2, h3, h4⟩ := h
    refine (copyCheck_used b w (by rw [Lib.cell_of_heap h2]; rfl)).mono ?_
    rintro e w' ⟨rfl, rfl⟩
    exact ⟨rfl, h', Below.refl B _, Lib.OthersKept.refl _ _ _⟩
set_option maxHeartbeats 2000000 in
theorem write_any (B b k : Nat) (bs : List Value) (s : ByteArray) (w : World) (h : Prn B b bs k w) (hlen : bs.length + s.size ≤ 140737488355328) (hBw : B ≤ w.heap.size) :
    Calls Tryz.prog 69 #[.pointer (some ⟨b, 0, none⟩), .string s] w fun e w' => e = .returned (.tuple #[.int .i64 s.size, .nilIface]) ∧ Prn B b (bs ++ Lib.strCells s) k w' ∧ Below B w w' ∧ Lib.OthersKept 5 (some b) w w' := by
  obtain ⟨i0, hi, hz0, hz1, hz2⟩ := info_parts infoU
  go_enter Tryz.func69, Tryz.ntmps69
  go_wp2_with fail
  refine (copyCheck_any B b k bs _ h).mono ?_
  rintro e w1 ⟨rfl, h1, hb1, ho1⟩
  have HO1 := Lib.hid ho1
  clear ho1
  obtain ⟨hB, v, hbk, hown, hne⟩ := h1
  have c0 : w1.cell? ⟨b, 0, none⟩ = some (.pointer (some ⟨b, 0, none⟩)) := by rw [Lib.cell_of_heap hbk]; rfl
  have c1 : w1.cell? ⟨b, 1, none⟩ = some v := by rw [Lib.cell_of_heap hbk]; rfl
  go_wp2_with (at_builtin; refine Lib.wpList_append_own_string _ rfl _ _ 47 9 rfl B 5 i0 Tryz.underlying47 Tryz.underlying9 hi hz0 hz1 hz2 _ _ _ rfl hown s rfl ?c3 ?c4 ?c5 ?_)
  case c3 => unfold maxLen; omega
  case c4 => omega
  case c5 => have := hb1.size; omega
  intro v' w2 hown' hgrow _
  have hlt : b < w1.heap.size := heap_lt hbk
  have hb2 : w2.heap[b]? = some (.cells #[.pointer (some ⟨b, 0, none⟩), v, .int .i64 k] 51 (0, 0)) := by
    rw [hgrow.block b hlt (fun e => hne e.symm)]
    exact hbk
  have d0 : w2.cell? ⟨b, 0, none⟩ = some (.pointer (some ⟨b, 0, none⟩)) := by rw [Lib.cell_of_heap hb2]; rfl
  have d1 : w2.cell? ⟨b, 1, none⟩ = some v := by rw [Lib.cell_of_heap hb2]; rfl
  have f1 : w2.frozen? ⟨b, 1, none⟩ = false := Lib.frozen_of_heap hb2 1
  obtain ⟨ao, n', cap, rfl⟩ : ∃ ao n' cap, v' = .slice ao n' cap := by
    rcases hown'.2 with ⟨hv, _⟩ | ⟨g, cap, cur, hv, _⟩
    · exact ⟨_, _, _, hv⟩
    · exact ⟨_, _, _, hv⟩
  have R1 := Lib.hid (PrnA.put hB hb2 (bs' := bs ++ Lib.strCells s) (by simpa [Lib.strCells_length] using hown'))
  have R2 := Lib.hid ((hb1.grown hgrow (by have := hb1.size; omega) (fun k hk => (hown.lt k hk).1)).setCell (p := ⟨b, 1, none⟩) hB (.slice ao n' cap))
  have R3 := Lib.hid ((HO1.out.trans (others_grown hown hgrow)).trans (others_setCell w2 b 1 (.slice ao n' cap)))
  clear hown hown' hgrow hb1
  go_wp2
  go_ret2
  exact ⟨rfl, .inr R1.out, R2.out, R3.out⟩
set_option maxHeartbeats 2000000 in
theorem byte_any (B b k : Nat) (bs : List Value) (c : Nat) (w : World) (h : Prn B b bs k w) (hlen : bs.length + 1 ≤ 140737488355328) (hBw : B ≤ w.heap.size) :
    Calls Tryz.prog 45 #[.pointer (some ⟨b, 0, none⟩), .int .u8 c] w fun e w' => e = .returned .nilIface ∧ Prn B b (bs ++ [.int .u8 c]) k w' ∧ Below B w w' ∧ Lib.OthersKept 5 (some b) w w' := by
  obtain ⟨i0, hi, hz0, hz1, hz2⟩ := info_parts infoU
  go_enter Tryz.func45, Tryz.ntmps45
  go_wp2_with fail
  refine (copyCheck_any B b k bs _ h).mono ?_
  rintro e w1 ⟨rfl, h1, hb1, ho1⟩
  have HO1 := Lib.hid ho1
  clear ho1
  obtain ⟨hB, v, hbk, hown, hne⟩ := h1
  have c0 : w1.cell? ⟨b, 0, none⟩ = some (.pointer (some ⟨b, 0, none⟩)) := by rw [Lib.cell_of_heap hbk]; rfl
  have c1 : w1.cell? ⟨b, 1, none⟩ = some v := by rw [Lib.cell_of_heap hbk]; rfl
  have hlt : b < w1.heap.size := heap_lt hbk
  have b5 : B ≤ w1.heap.size := by have := hb1.size; omega
  have b5' : B ≤ (w1.alloc (.cells #[.int .u8 c] 5)).heap.size := by simp; omega
  have b3 : bs.length + 1 ≤ maxLen := by unfold maxLen; omega
  have b4 : (bs.length + 1) * 1 ≤ 140737488355328 := by omega
  have CN : ∀ j u, [Value.int .u8 c][j]? = some u → (w1.alloc (.cells #[.int .u8 c] 5)).cell? ((⟨w1.heap.size, 0, none⟩ : Addr).add j) = some u := fun j u hj => World.news_of_block (heap_alloc_new w1 (.cells #[.int .u8 c] 5)) j u hj
  have hbk2 : (w1.alloc (.cells #[.int .u8 c] 5)).heap[b]? = some (.cells #[.pointer (some ⟨b, 0, none⟩), v, .int .i64 k] 51 (0, 0)) := by rw [Below.heap_alloc _ _ _ hlt]; exact hbk
  have HBK := Lib.hid hbk2
  have OW := Lib.hid (hown.alloc (.cells #[.int .u8 c] 5))
  have HO := Lib.hid hown
  clear hbk2
  go_wp2_with (at_builtin; refine wpList_append_at rfl (.tmp 11) (.tmp 13) 47 rfl B 5 i0 (.int .u8 0) 1 1 Tryz.underlying47 hi hz0 hz1 hz2 rfl (by decide) v bs.length bs rfl OW.out ⟨w1.heap.size, 0, none⟩ 1 1 [.int .u8 c] rfl rfl CN (by simp [Value.oneCell']) b3 b4 b5' ?_)
  intro v' w2 hown' hgrow _
  have hb2 : w2.heap[b]? = some (.cells #[.pointer (some ⟨b, 0, none⟩), v, .int .i64 k] 51 (0, 0)) := by
    rw [hgrow.block b (by simp; omega) (fun e => hne e.symm)]
    exact HBK.out
  have d0 : w2.cell? ⟨b, 0, none⟩ = some (.pointer (some ⟨b, 0, none⟩)) := by rw [Lib.cell_of_heap hb2]; rfl
  have d1 : w2.cell? ⟨b, 1, none⟩ = some v := by rw [Lib.cell_of_heap hb2]; rfl
  have f1 : w2.frozen? ⟨b, 1, none⟩ = false := Lib.frozen_of_heap hb2 1
  obtain ⟨ao, n', cap, rfl⟩ : ∃ ao n' cap, v' = .slice ao n' cap := by
    rcases hown'.2 with ⟨hv, _⟩ | ⟨g, cap, cur, hv, _⟩
    · exact ⟨_, _, _, hv⟩
    · exact ⟨_, _, _, hv⟩
  have R1 := Lib.hid (PrnA.put hB hb2 (bs' := bs ++ [.int .u8 c]) (by simpa using hown'))
  have R2 := Lib.hid (((hb1.alloc b5 (.cells #[.int .u8 c] 5)).grown hgrow b5' (fun k hk => (OW.out.lt k hk).1)).setCell (p := ⟨b, 1, none⟩) hB (.slice ao n' cap))
  have R3 := Lib.hid (((HO1.out.alloc (.cells #[.int .u8 c] 5)).trans (others_grown OW.out hgrow)).trans (others_setCell w2 b 1 (.slice ao n' cap)))
  clear hown hown' hgrow hb1
  go_wp2
  go_ret
  exact ⟨rfl, .inr R1.out, R2.out, R3.out⟩
end Go.Proofs.YtiabkkdeonepgaaGreatDoor
namespace Go.Proofs.YtiabkkdeonepgaaGreatDoor
open Go.RowKit
namespace Ps
theorem bc_app (bs : List Value) (x y : Bs) : bs ++ Lib.byteCells x ++ Lib.byteCells y = bs ++ Lib.byteCells (x ++ y) := by simp [Lib.byteCells]
theorem sc_bc (s : ByteArray) : Lib.strCells s = Lib.byteCells s.data.toList := rfl
def cat (l : List ByteArray) : Bs := l.flatMap fun s => s.data.toList
theorem cat_app (a b : List ByteArray) : cat (a ++ b) = cat a ++ cat b := by unfold cat; exact List.flatMap_append
theorem cat_take (l : List ByteArray) (i : Nat) (h : i < l.length) : cat (l.take (i + 1)) = cat (l.take i) ++ l[i].data.toList := by
  rw [List.take_succ_eq_append_getElem h, cat_app]; congr 1; simp [cat]
theorem cat_part (l : List ByteArray) (i : Nat) (h : i < l.length) : (cat (l.take i)).length + l[i].size ≤ (cat l).length := by
  have e := congrArg cat (List.take_append_drop (i + 1) l)
  rw [cat_app, cat_take l i h] at e
  rw [← e]
  simp only [List.length_append, Array.length_toList, ByteArray.size_data]
  omega
def Wrt (B b k : Nat) (bs : List Value) (x : Bs) (w : World) (e : Ending) (w' : World) : Prop := e = .returned (.tuple #[]) ∧ Prn B b (bs ++ Lib.byteCells x) k w' ∧ Below B w w' ∧ Lib.OthersKept 5 (some b) w w'
def lim : Nat := 140737488355328
set_option maxHeartbeats 2000000 in
theorem texts_any (B b k : Nat) (bs : List Value) (l : List ByteArray) (g : Nat) (w : World) (h : Prn B b bs k w) (hr : RowB w g 9 (l.map Value.string).toArray) (hg : g ≠ b) (hlen : bs.length + (cat l).length ≤ lim) (hn : l.length ≤ 100) (hBw : B ≤ w.heap.size) :
    Calls Tryz.prog 46 #[.pointer (some ⟨b, 0, none⟩), .slice (some ⟨g, 0, none⟩) l.length l.length] w (Wrt B b k bs (cat l) w) := by
  obtain ⟨n, hnn⟩ : ∃ n, n = l.length := ⟨_, rfl⟩
  rw [← hnn]
  have HP := Lib.hid h
  have HR := Lib.hid hr
  have HN := Lib.hid hnn
  have hglt := hr.lt
  unfold lim at hlen
  clear h hr hnn
  go_enter Tryz.func46, Tryz.ntmps46
  go_wp2_with fail
  go_loopg [8] (n + 1) (fun kx s8 wr => ∃ (i : Nat), s8 = .int .i64 i ∧ n - i ≤ kx ∧ i ≤ n ∧ Hid (Prn B b (bs ++ Lib.byteCells (cat (l.take i))) k wr) ∧ Hid (RowB wr g 9 (l.map Value.string).toArray) ∧ Hid (Below B w wr) ∧ Hid (Lib.OthersKept 5 (some b) w wr))
  case atStart => exact ⟨0, rfl, by omega, by omega, by unfold Hid; simpa [cat, Lib.byteCells] using HP.out, HR.out, Below.refl _ _, Lib.OthersKept.refl _ _ _⟩
  case round =>
    obtain ⟨i, rfl, hkx, hin, H1, H2, H3, H4⟩ := hrel
    have hsz := H3.out.size
    by_cases hi : i < n
    · have hil : (i : Int) < (n : Int) := by omega
      have hi' : i < l.length := by rw [← HN.out]; exact hi
      have rc := H2.out.cell i
      have e0 : (l.map Value.string).toArray[i]? = some (.string l[i]) := by simp [hi']
      rw [e0] at rc
      obtain ⟨j, hj⟩ : ∃ j, j = i + 1 := ⟨_, rfl⟩
      have e1 : IntKind.i64.wrap ((i : Int) + 1) = (j : Int) := by rw [IntKind.wrap_i64]; omega
      have hp := cat_part l i hi'
      have ht := cat_take l i hi'
      have CW := Lib.hid (write_any B b k _ l[i] _ H1.out (by rw [List.length_append, Lib.byteCells_length]; omega) (by omega))
      have HT := Lib.hid ht
      clear hp ht
      generalize l[i] = s at *
      go_wp2_with fail
      refine CW.out.mono ?_
      rintro e w2 ⟨rfl, h1, h2, h3⟩
      have F1 : Hid (Prn B b (bs ++ Lib.byteCells (cat (l.take j))) k w2) := by
        unfold Hid
        rw [sc_bc, bc_app, ← HT.out, ← hj] at h1
        exact h1
      have F2 := Lib.hid (row_others H2.out h3 hg (by decide))
      have F3 := Lib.hid (H3.out.trans h2)
      have F4 := Lib.hid (H4.out.trans h3)
      clear h1 h2 h3 CW
      go_wp2_with fail
      go_roundg (n - j)
      case measure => omega
      case rel => exact ⟨j, by rw [hj]; go_num, by omega, by omega, F1.out, F2.out, F3.out, F4.out⟩
    · have hil : ¬ (i : Int) < (n : Int) := by omega
      have hz : i = n := by omega
      subst hz
      have e : l.take i = l := by rw [HN.out]; exact List.take_length
      have G1 : Hid (Prn B b (bs ++ Lib.byteCells (cat l)) k wr) := by unfold Hid; rw [← e]; exact H1.out
      clear e
      go_wp2_with fail
      go_end0
      exact ⟨rfl, G1.out, H3.out, H4.out⟩
theorem texts_new (B b k : Nat) (bs : List Value) (l : List ByteArray) (n : Nat) (cs : Array Value) (x : Bs) (w : World) (h : Prn B b bs k w) (hc : cs = (l.map Value.string).toArray) (hx : cat l = x) (hn : n = l.length) (hlen : bs.length + x.length ≤ lim) (h100 : l.length ≤ 100) (hBw : B ≤ w.heap.size) :
    Calls Tryz.prog 46 #[.pointer (some ⟨b, 0, none⟩), .slice (some ⟨w.heap.size, 0, none⟩) n n] (w.alloc (.cells cs 9)) (Wrt B b k bs x w) := by
  subst hc hx hn
  have hlt := h.lt
  refine (texts_any B b k bs l w.heap.size _ (h.below (bel1 w _)) (RowB.new w 9 _) (by omega) hlen h100 (by simp; omega)).mono ?_
  rintro e w' ⟨h1, h2, h3, h4⟩
  exact ⟨h1, h2, ((Below.refl B w).alloc hBw _).trans h3, ((Lib.OthersKept.refl 5 (some b) w).alloc _).trans h4⟩
set_option maxHeartbeats 2000000 in
theorem line_any (B b k : Nat) (bs : List Value) (w : World) (h : Prn B b bs k w) (hk : k ≤ 1000) (hlen : bs.length + (lineB k).length ≤ lim) (hBw : B ≤ w.heap.size) :
    Calls Tryz.prog 27 #[.pointer (some ⟨b, 0, none⟩)] w (Wrt B b k bs (lineB k) w) := by
  have hl : (lineB k).length = 1 + 2 * k := by simp [lineB]; omega
  have hlen' := hlen
  unfold lim at hlen'
  have CB := Lib.hid (byte_any B b k bs 10 w h (by omega) hBw)
  clear h
  go_enter Tryz.func27, Tryz.ntmps27
  go_wp2_with fail
  refine CB.out.mono ?_
  rintro e w1 ⟨rfl, h1, h2, h3⟩
  have G3 := Lib.hid h3
  have G1 : Hid (Prn B b (bs ++ Lib.byteCells [10]) k w1) := h1
  have G2 := Lib.hid h2
  have c2 := h1.cell2
  have hs1 := h2.size
  clear h1 h2 h3 CB
  go_wp2_with fail
  go_loopg [10] (k + 1) (fun kx s10 wr => ∃ (i : Nat), s10 = .int .i64 i ∧ k - i ≤ kx ∧ i ≤ k ∧ Hid (Prn B b (bs ++ Lib.byteCells (lineB i)) k wr) ∧ Hid (Below B w wr) ∧ Hid (Lib.OthersKept 5 (some b) w wr))
  case atStart => exact ⟨0, rfl, by omega, by omega, G1.out, G2.out, G3.out⟩
  case round =>
    obtain ⟨i, rfl, hkx, hin, H1, H3, H4⟩ := hrel
    have hsz := H3.out.size
    clear G1 G2 G3 c2
    by_cases hi : i < k
    · have hil : (i : Int) < (k : Int) := by omega
      obtain ⟨j, hj⟩ : ∃ j, j = i + 1 := ⟨_, rfl⟩
      have e1 : IntKind.i64.wrap ((i : Int) + 1) = (j : Int) := by rw [IntKind.wrap_i64]; omega
      have hli : (lineB i).length = 1 + 2 * i := by simp [lineB]; omega
      have CW := Lib.hid (texts_new B b k _ [⟨#[32, 32]⟩] 1 #[.string ⟨#[32, 32]⟩] [32, 32] wr H1.out rfl rfl rfl (by rw [List.length_append, Lib.byteCells_length, hli]; unfold lim; simp only [List.length_cons, List.length_nil]; omega) (by decide) (by omega))
      go_wp2_with fail
      refine CW.out.mono ?_
      rintro e w2 ⟨rfl, h1, h2, h3⟩
      have F1 : Hid (Prn B b (bs ++ Lib.byteCells (lineB j)) k w2) := by
        unfold Hid
        rw [bc_app] at h1
        have e : lineB i ++ [32, 32] = lineB j := by
          rw [hj]; unfold lineB
          rw [show 2 * (i + 1) = 2 * i + 1 + 1 by omega, List.replicate_succ', List.replicate_succ']
          simp
        rw [e] at h1
        exact h1
      have F3 := Lib.hid (H3.out.trans h2)
      have F4 := Lib.hid (H4.out.trans h3)
      clear h1 h2 h3 CW
      go_wp2_with fail
      go_roundg (k - j)
      case measure => omega
      case rel => exact ⟨j, by rw [hj]; go_num, by omega, by omega, F1.out, F3.out, F4.out⟩
    · have hil : ¬ (i : Int) < (k : Int) := by omega
      have hz : i = k := by omega
      subst hz
      go_wp2_with fail
      go_end0
      exact ⟨rfl, H1.out, H3.out, H4.out⟩
end Ps
end Go.Proofs.YtiabkkdeonepgaaGreatDoor
namespace Go.Proofs.YtiabkkdeonepgaaGreatDoor
open Go.RowKit
namespace Pg
open Ps
structure Pw (B b d : Nat) (bs : List Value) (X : Bs) (w0 w : World) : Prop where
  p : Prn B b (bs ++ Lib.byteCells X) d w
  bl : Below B w0 w
  oth : Lib.OthersKept 5 (some b) w0 w
  bw : B ≤ w0.heap.size
  lt : b < w0.heap.size
variable {B b d : Nat} {bs : List Value} {X Y : Bs} {w0 w w' : World}
theorem Pw.start (h : Prn B b bs d w) (hb : B ≤ w.heap.size) : Pw B b d bs [] w w := ⟨by simpa [Lib.byteCells] using h, Below.refl _ _, Lib.OthersKept.refl _ _ _, hb, h.lt.1⟩
theorem Pw.size (h : Pw B b d bs X w0 w) : B ≤ w.heap.size ∧ w0.heap.size ≤ w.heap.size := by
  have := h.bl.size; have := h.bw; omega
theorem Pw.step (h : Pw B b d bs X w0 w) {e : Ending} (hw : Wrt B b d (bs ++ Lib.byteCells X) Y w e w') : e = .returned (.tuple #[]) ∧ Pw B b d bs (X ++ Y) w0 w' := by
  obtain ⟨h1, h2, h3, h4⟩ := hw
  rw [bc_app] at h2
  exact ⟨h1, h2, h.bl.trans h3, h.oth.trans h4, h.bw, h.lt⟩
theorem others_below {e : TypeId} {b : Option Nat} (hb : Below w.heap.size w w') : Lib.OthersKept e b w w' := fun j o ho _ _ => by
  rw [hb.block j (heap_lt ho)]
  exact ho
theorem Pw.other (h : Pw B b d bs X w0 w) (hb : Below w.heap.size w w') : Pw B b d bs X w0 w' :=
  ⟨h.p.below hb, h.bl.trans (hb.mono h.size.1), h.oth.trans (others_below hb), h.bw, h.lt⟩
theorem Pw.alloc (h : Pw B b d bs X w0 w) (cs : Array Value) (t : TypeId) : Pw B b d bs X w0 (w.alloc (.cells cs t)) := h.other (bel1 w _)
theorem Pw.row (h : Pw B b d bs X w0 w) {g t : Nat} {cs : Array Value} (hr : RowB w0 g t cs) (hg : g ≠ b) (ht : t ≠ 5) : RowB w g t cs := row_others hr h.oth hg ht
theorem Pw.kv (h : Pw B b d bs X w0 w) {k : Fo} {A : Option Addr} {cap : Nat} (hk : KV w0 (fun g => g < B) k A cap) : KV w (fun g => g < B) k A cap :=
  hk.keep h.bl.size (fun g hg _ => ⟨h.bl.block g hg, hg⟩)
theorem Pw.done (h : Pw B b d bs X w0 w) : Wrt B b d bs X w0 (.returned (.tuple #[])) w := ⟨rfl, h.p, h.bl, h.oth⟩
theorem Pw.cast (h : Pw B b d bs X w0 w) (e : X = Y) : Pw B b d bs Y w0 w := e ▸ h
structure Bd (d : Nat) (k : Fo) : Prop where
  dp : d + k.deep ≤ 500
  ln : k.len ≤ 1000001
  wd : k.wide ≤ 1000001
def NodeW (fn : Nat) (q : Nat → Prop) (n : Nat) : Prop := ∀ (B b d : Nat) (bs : List Value) (h : Hd) (k : Fo) (A : Option Addr) (cap : Nat) (w : World), Prn B b bs d w → B ≤ w.heap.size → KV w (fun g => g < B) k A cap → okF (.one h k) → q h.kind → k.deep ≤ n → Bd d k →
  bs.length + (prN d h k).length ≤ lim → Calls Tryz.prog fn #[.pointer (some ⟨b, 0, none⟩), nvv h A k.len cap] w (Wrt B b d bs (prN d h k) w)
theorem Pw.node {fn : Nat} {q : Nat → Prop} {n : Nat} (E : NodeW fn q n) (h : Pw B b d bs X w0 w) {hd : Hd} {k : Fo} {A : Option Addr} {cap : Nat} (hk : KV w (fun g => g < B) k A cap) (ho : okF (.one hd k)) (hq : q hd.kind) (hn : k.deep ≤ n) (hb : Bd d k) {L : Nat} (hl : bs.length + L ≤ lim) (hL : X.length + (prN d hd k).length ≤ L) :
    Calls Tryz.prog fn #[.pointer (some ⟨b, 0, none⟩), nvv hd A k.len cap] w (fun e w' => e = .returned (.tuple #[]) ∧ Pw B b d bs (X ++ prN d hd k) w0 w') :=
  (E B b d _ hd k A cap w h.p h.size.1 hk ho hq hn hb (by rw [List.length_append, Lib.byteCells_length]; omega)).mono fun _ _ hw => h.step hw
theorem Pw.texts (h : Pw B b d bs X w0 w) (H : Nat) (hH : w.heap.size = H) (l : List ByteArray) (n : Nat) (cs : Array Value) (x : Bs) (hc : cs = (l.map Value.string).toArray) (hx : cat l = x) (hn : n = l.length) (h100 : l.length ≤ 100) {L : Nat} (hl : bs.length + L ≤ lim) (hL : X.length + x.length ≤ L) :
    Calls Tryz.prog 46 #[.pointer (some ⟨b, 0, none⟩), .slice (some ⟨H, 0, none⟩) n n] (w.alloc (.cells cs 9)) (fun e w' => e = .returned (.tuple #[]) ∧ Pw B b d bs (X ++ x) w0 w') := by
  subst hH
  exact (texts_new B b d _ l n cs x w h.p hc hx hn (by rw [List.length_append, Lib.byteCells_length]; omega) h100 h.size.1).mono fun _ _ hw => h.step hw
theorem Pw.line (h : Pw B b d bs X w0 w) (hd : d ≤ 1000) {L : Nat} (hl : bs.length + L ≤ lim) (hL : X.length + (lineB d).length ≤ L) :
    Calls Tryz.prog 27 #[.pointer (some ⟨b, 0, none⟩)] w (fun e w' => e = .returned (.tuple #[]) ∧ Pw B b d bs (X ++ lineB d) w0 w') :=
  (line_any B b d _ w h.p hd (by rw [List.length_append, Lib.byteCells_length]; omega) h.size.1).mono fun _ _ hw => h.step hw
structure KidAt (B : Nat) (w : World) (g o : Nat) (h : Hd) (k : Fo) (A : Option Addr) (cap : Nat) : Prop where
  gb : g < B
  kv : KV w (fun g => g < B) k A cap
  c0 : w.cell? ⟨g, o, none⟩ = some (.int .i64 h.kind)
  c1 : w.cell? ⟨g, o + 1, none⟩ = some (.int .i64 h.fro)
  c2 : w.cell? ⟨g, o + 2, none⟩ = some (.int .i64 h.til)
  c3 : w.cell? ⟨g, o + 3, none⟩ = some (.string h.word)
  c4 : w.cell? ⟨g, o + 4, none⟩ = some (.int .i64 h.at_)
  c5 : w.cell? ⟨g, o + 5, none⟩ = some (.slice A k.len cap)
theorem KidAt.keep {g o : Nat} {h : Hd} {k : Fo} {A : Option Addr} {cap : Nat} (hk : KidAt B w0 g o h k A cap) (hb : Below B w0 w) : KidAt B w g o h k A cap := by
  have key : ∀ j, w.cell? ⟨g, j, none⟩ = w0.cell? ⟨g, j, none⟩ := fun j => hb.cell (p := ⟨g, j, none⟩) hk.gb
  exact ⟨hk.gb, hk.kv.keep hb.size (fun g hg _ => ⟨hb.block g hg, hg⟩), by rw [key]; exact hk.c0, by rw [key]; exact hk.c1, by rw [key]; exact hk.c2, by rw [key]; exact hk.c3, by rw [key]; exact hk.c4, by rw [key]; exact hk.c5⟩
theorem KidAt.of {k : Fo} {A : Option Addr} {cap : Nat} (hk : KV w (fun g => g < B) k A cap) (h0 : 0 < k.len) : ∃ g o, A = some ⟨g, o, none⟩ ∧ g < B ∧ ∀ i h kk r, k.drop i = .cons h kk r → ∃ A2 c2, KidAt B w g (o + i * 6) h kk A2 c2 := by
  obtain ⟨g, o, ck, hA, hP, hg, hc, hf⟩ := hk.2 h0
  refine ⟨g, o, hA, hP, fun i h kk r e => ?_⟩
  obtain ⟨A2, c2, h1, h2⟩ := FC.nth k ck i h kk r hf e
  have key := fun j u hu => hc _ _ (h2 j u hu)
  exact ⟨A2, c2, hP, h1, key 0 _ rfl, key 1 _ rfl, key 2 _ rfl, key 3 _ rfl, key 4 _ rfl, key 5 _ rfl⟩
theorem okF.drop : ∀ {k : Fo} (i : Nat) {h : Hd} {kk r : Fo}, okF k → k.drop i = .cons h kk r → okF (.one h kk)
  | .nil, i, h, kk, r, ho, e => by cases i <;> simp [Fo.drop] at e
  | .cons h' k' r', 0, h, kk, r, ho, e => by
    rw [Fo.drop] at e
    injection e with e1 e2 e3
    subst e1 e2 e3
    exact ⟨ho.1, ho.2.1, trivial⟩
  | .cons h' k' r', i + 1, h, kk, r, ho, e => by
    rw [Fo.drop] at e
    exact okF.drop i ho.2.2 e
theorem Bd.kid {k : Fo} {i : Nat} {h : Hd} {kk r : Fo} (hb : Bd d k) (e : k.drop i = .cons h kk r) : Bd d kk ∧ kk.deep + 1 ≤ k.deep := by
  obtain ⟨b1, b2, b3⟩ := Fo.drop_bounds k i _ _ _ e
  have := hb.dp; have := hb.wd
  exact ⟨⟨by omega, by omega, by omega⟩, by omega⟩
end Pg
end Go.Proofs.YtiabkkdeonepgaaGreatDoor
namespace Go.Proofs.YtiabkkdeonepgaaGreatDoor
open Go.RowKit
namespace Pg
open Ps
theorem Pw.doneA {B b d : Nat} {bs : List Value} {X : Bs} {w w' : World} {o : Obj} (h : Pw B b d bs X (w.alloc o) w') (hB : B ≤ w.heap.size) : Wrt B b d bs X w (.returned (.tuple #[])) w' :=
  ⟨rfl, h.p, ((Below.refl B w).alloc hB o).trans h.bl, ((Lib.OthersKept.refl 5 (some b) w).alloc o).trans h.oth⟩
set_option maxHeartbeats 2000000 in
theorem two_w (n : Nat) (E : NodeW 125 exK n) (B b d : Nat) (bs : List Value) (w : World) (x1 x2 x3 : Nat) (x4 : ByteArray) (x5 : Nat) (a c : Hd) (ak ck : Fo) (A : Option Addr) (cap : Nat) (sign : ByteArray) (hp : Prn B b bs d w) (hB : B ≤ w.heap.size)
    (hk : KV w (fun g => g < B) (.cons a ak (.cons c ck .nil)) A cap) (oa : okF (.one a ak)) (oc : okF (.one c ck)) (qa : exK a.kind) (qc : exK c.kind) (da : ak.deep ≤ n) (dc : ck.deep ≤ n) (ba : Bd d ak) (bc : Bd d ck) (x : Bs) (hx : prN d a ak ++ sign.data.toList ++ prN d c ck = x) (hl : bs.length + x.length ≤ lim) :
    Calls Tryz.prog 140 #[.pointer (some ⟨b, 0, none⟩), .agg #[.int .i64 x1, .int .i64 x2, .int .i64 x3, .string x4, .int .i64 x5, .slice A 2 cap], .string sign] w (Wrt B b d bs x w) := by
  obtain ⟨g, o, rfl, hg, hkid⟩ := KidAt.of hk (by simp [Fo.len])
  have hlen := congrArg List.length hx
  simp at hlen
  have hbl := hp.lt
  have HX := Lib.hid hx
  have P0 := Lib.hid (Pw.start (hp.below (bel1 w (.cells #[.int .i64 x1, .int .i64 x2, .int .i64 x3, .string x4, .int .i64 x5, .slice (some ⟨g, o, none⟩) 2 cap] 25))) (by simp; omega))
  have R0 := Lib.hid (RowB.new w 25 #[.int .i64 x1, .int .i64 x2, .int .i64 x3, .string x4, .int .i64 x5, .slice (some ⟨g, o, none⟩) 2 cap])
  obtain ⟨a1, a2, a3, a4, a5⟩ := a
  obtain ⟨e1, e2, e3, e4, e5⟩ := c
  obtain ⟨Aa, ca, ka⟩ := hkid 0 _ _ _ rfl
  rw [show o + 0 * 6 = o by omega] at ka
  have Ka := Lib.hid (ka.keep ((Below.refl B w).alloc hB (.cells #[.int .i64 x1, .int .i64 x2, .int .i64 x3, .string x4, .int .i64 x5, .slice (some ⟨g, o, none⟩) 2 cap] 25)))
  clear ka
  obtain ⟨Ac, cc, kc⟩ := hkid 1 _ _ _ rfl
  rw [show o + 1 * 6 = o + 6 by omega] at kc
  have Kc := Lib.hid (kc.keep ((Below.refl B w).alloc hB (.cells #[.int .i64 x1, .int .i64 x2, .int .i64 x3, .string x4, .int .i64 x5, .slice (some ⟨g, o, none⟩) 2 cap] 25)))
  clear kc
  clear hkid hk hp hx
  go_enter Tryz.func140, Tryz.ntmps140
  have q := Ka.out.keep P0.out.bl
  have C := Lib.hid (P0.out.node E q.kv oa qa da ba hl (by simp <;> omega))
  have rc := R0.out.cell
  have m0 := q.c0
  have m1 := q.c1
  have m2 := q.c2
  have m3 := q.c3
  have m4 := q.c4
  have m5 := q.c5
  clear q
  go_wp2_with fail
  refine C.out.mono ?_
  rintro e w1 ⟨rfl, h1⟩
  have P1 := Lib.hid h1
  have R1 := Lib.hid (P1.out.row R0.out (by omega) (by decide))
  clear h1 C rc m0 m1 m2 m3 m4 m5
  have C := Lib.hid (P1.out.texts w1.heap.size rfl [sign] 1 #[.string sign] sign.data.toList rfl (by simp [cat]) rfl (by simp) hl (by simp <;> omega))
  have rc := R1.out.cell
  go_wp2_with fail
  refine C.out.mono ?_
  rintro e w2 ⟨rfl, h1⟩
  have P2 := Lib.hid h1
  have R2 := Lib.hid (P2.out.row R0.out (by omega) (by decide))
  clear h1 C rc
  have q := Kc.out.keep P2.out.bl
  have C := Lib.hid (P2.out.node E q.kv oc qc dc bc hl (by simp <;> omega))
  have rc := R2.out.cell
  have m0 := q.c0
  have m1 := q.c1
  have m2 := q.c2
  have m3 := q.c3
  have m4 := q.c4
  have m5 := q.c5
  clear q
  go_wp2_with fail
  refine C.out.mono ?_
  rintro e w3 ⟨rfl, h1⟩
  have P3 := Lib.hid h1
  have R3 := Lib.hid (P3.out.row R0.out (by omega) (by decide))
  clear h1 C rc m0 m1 m2 m3 m4 m5
  go_wp2_with fail
  go_end0
  exact (P3.out.cast (by rw [← HX.out]; simp)).doneA hB
set_option maxHeartbeats 2000000 in
theorem closed_w (n : Nat) (E : NodeW 125 exK n) (B b d : Nat) (bs : List Value) (w : World) (a1 a2 a3 : Nat) (a4 : ByteArray) (a5 : Nat) (k : Fo) (A : Option Addr) (cap : Nat) (ahead : ByteArray) (hp : Prn B b bs d w) (hB : B ≤ w.heap.size)
    (hk : KV w (fun g => g < B) k A cap) (oa : okF (.one ⟨a1, a2, a3, a4, a5⟩ k)) (qa : exK a1) (da : k.deep ≤ n) (ba : Bd d k) (x : Bs) (hx : ahead.data.toList ++ prN d ⟨a1, a2, a3, a4, a5⟩ k ++ [59] = x) (hl : bs.length + x.length ≤ lim) :
    Calls Tryz.prog 126 #[.pointer (some ⟨b, 0, none⟩), .string ahead, .agg #[.int .i64 a1, .int .i64 a2, .int .i64 a3, .string a4, .int .i64 a5, .slice A k.len cap]] w (Wrt B b d bs x w) := by
  have hlen := congrArg List.length hx
  simp at hlen
  have hbl := hp.lt
  have HX := Lib.hid hx
  have P0 := Lib.hid (Pw.start (hp.below (bel1 w (.cells #[.int .i64 a1, .int .i64 a2, .int .i64 a3, .string a4, .int .i64 a5, .slice A k.len cap] 25))) (by simp; omega))
  have R0 := Lib.hid (RowB.new w 25 #[.int .i64 a1, .int .i64 a2, .int .i64 a3, .string a4, .int .i64 a5, .slice A k.len cap])
  have HK := Lib.hid (hk.below (bel1 w (.cells #[.int .i64 a1, .int .i64 a2, .int .i64 a3, .string a4, .int .i64 a5, .slice A k.len cap] 25)))
  clear hp hx hk
  go_enter Tryz.func126, Tryz.ntmps126
  have C := Lib.hid (P0.out.texts (w.heap.size + 1) (by simp) [ahead] 1 #[.string ahead] ahead.data.toList rfl (by simp [cat]) rfl (by simp) hl (by simp <;> omega))
  have rc := R0.out.cell
  go_wp2_with fail
  refine C.out.mono ?_
  rintro e w1 ⟨rfl, h1⟩
  have P1 := Lib.hid h1
  have R1 := Lib.hid (P1.out.row R0.out (by omega) (by decide))
  clear h1 C rc
  have C := Lib.hid (P1.out.node E (P1.out.kv HK.out) oa qa da ba hl (by simp <;> omega))
  have rc := R1.out.cell
  go_wp2_with fail
  refine C.out.mono ?_
  rintro e w2 ⟨rfl, h1⟩
  have P2 := Lib.hid h1
  have R2 := Lib.hid (P2.out.row R0.out (by omega) (by decide))
  clear h1 C rc
  have C := Lib.hid (P2.out.texts w2.heap.size rfl [⟨#[59]⟩] 1 #[.string ⟨#[59]⟩] [59] rfl (by simp [cat]) rfl (by simp) hl (by simp <;> omega))
  have rc := R2.out.cell
  go_wp2_with fail
  refine C.out.mono ?_
  rintro e w3 ⟨rfl, h1⟩
  have P3 := Lib.hid h1
  have R3 := Lib.hid (P3.out.row R0.out (by omega) (by decide))
  clear h1 C rc
  go_wp2_with fail
  go_end0
  exact (P3.out.cast (by rw [← HX.out]; simp)).doneA hB
end Pg
end Go.Proofs.YtiabkkdeonepgaaGreatDoor
namespace Go.Proofs.YtiabkkdeonepgaaGreatDoor
open Go.RowKit
namespace Pg
open Ps
set_option maxHeartbeats 2000000 in
theorem written_w (n : Nat) (T : NodeW 104 tyK n) (B b d : Nat) (bs : List Value) (w : World) (a1 a2 a3 : Nat) (a4 : ByteArray) (a5 : Nat) (k : Fo) (A : Option Addr) (cap : Nat) (hp : Prn B b bs d w) (hB : B ≤ w.heap.size)
    (hk : KV w (fun g => g < B) k A cap) (oa : okF (.one ⟨a1, a2, a3, a4, a5⟩ k)) (qa : nT a1) (da : k.deep ≤ n) (ba : Bd d k) (x : Bs) (hx : wrB (a1, prN d ⟨a1, a2, a3, a4, a5⟩ k) = x) (hl : bs.length + x.length ≤ lim) :
    Calls Tryz.prog 72 #[.pointer (some ⟨b, 0, none⟩), .agg #[.int .i64 a1, .int .i64 a2, .int .i64 a3, .string a4, .int .i64 a5, .slice A k.len cap]] w (Wrt B b d bs x w) := by
  have hbl := hp.lt
  have HX := Lib.hid hx
  have P0 := Lib.hid (Pw.start (hp.below (bel1 w (.cells #[.int .i64 a1, .int .i64 a2, .int .i64 a3, .string a4, .int .i64 a5, .slice A k.len cap] 25))) (by simp; omega))
  have R0 := Lib.hid (RowB.new w 25 #[.int .i64 a1, .int .i64 a2, .int .i64 a3, .string a4, .int .i64 a5, .slice A k.len cap])
  have HK := Lib.hid (hk.below (bel1 w (.cells #[.int .i64 a1, .int .i64 a2, .int .i64 a3, .string a4, .int .i64 a5, .slice A k.len cap] 25)))
  by_cases hz : a1 = 0
  · have dk : ((a1 : Int) != 0) = false := by rw [hz]; rfl
    have hx2 : ([] : Bs) = x := by rw [← hx, hz]; rfl
    have HX := Lib.hid hx2
    clear hp hx hx2 hk hz
    go_enter Tryz.func72, Tryz.ntmps72
    go_wp2_with fail
    go_end0
    exact (P0.out.cast HX.out).doneA hB
  · skip
    have qt := qa.resolve_left hz
    have dk : ((a1 : Int) != 0) = true := by rw [bne_iff_ne]; omega
    have hx2 : [58, 32] ++ prN d ⟨a1, a2, a3, a4, a5⟩ k = x := by rw [← hx]; unfold wrB; rw [if_neg (by dsimp only; exact hz)]
    have hlen := congrArg List.length hx2
    simp at hlen
    have HX := Lib.hid hx2
    clear hp hx hx2 hk
    go_enter Tryz.func72, Tryz.ntmps72
    have C := Lib.hid (P0.out.texts (w.heap.size + 1) (by simp) [⟨#[58, 32]⟩] 1 #[.string ⟨#[58, 32]⟩] [58, 32] rfl (by simp [cat]) rfl (by simp) hl (by simp <;> omega))
    have rc := R0.out.cell
    go_wp2_with fail
    refine C.out.mono ?_
    rintro e w1 ⟨rfl, h1⟩
    have P1 := Lib.hid h1
    have R1 := Lib.hid (P1.out.row R0.out (by omega) (by decide))
    clear h1 C rc
    have C := Lib.hid (P1.out.node T (P1.out.kv HK.out) oa qt da ba hl (by simp <;> omega))
    have rc := R1.out.cell
    go_wp2_with fail
    refine C.out.mono ?_
    rintro e w2 ⟨rfl, h1⟩
    have P2 := Lib.hid h1
    have R2 := Lib.hid (P2.out.row R0.out (by omega) (by decide))
    clear h1 C rc
    go_wp2_with fail
    go_end0
    exact (P2.out.cast (by rw [← HX.out]; simp)).doneA hB
def restB (d : Nat) (k : Fo) (i : Nat) : Bs := if i = 0 then cm (prt d k) else (prt d (k.drop i)).flatMap fun y => [44, 32] ++ y.2
theorem restB_step (d : Nat) (k : Fo) (i : Nat) (h : Hd) (kk : Fo) (e : k.drop i = .cons h kk (k.drop (i + 1))) : restB d k i = (if i = 0 then [] else [44, 32]) ++ prN d h kk ++ restB d k (i + 1) := by
  unfold restB
  rw [if_neg (show ¬ i + 1 = 0 by omega)]
  by_cases hi : i = 0
  · subst hi
    rw [Fo.drop_zero] at e
    rw [if_pos rfl, if_pos rfl]
    generalize k.drop (0 + 1) = r at *
    subst e
    rfl
  · rw [if_neg hi, if_neg hi, e]
    show ([44, 32] ++ prN d h kk) ++ _ = _
    rfl
theorem restB_end (d : Nat) (k : Fo) (i : Nat) (h : k.len ≤ i) : restB d k i = [] := by
  unfold restB
  rw [Fo.drop_end k i h]
  split
  · rename_i hi
    subst hi
    cases k with
    | nil => rfl
    | cons _ _ _ => simp [Fo.len] at h
  · rfl
def EachW (B b d : Nat) (F : Nat) (bnd caps : Array Value) (I : World → Prop) (q : Nat → Prop) (n : Nat) : Prop := ∀ (bs : List Value) (h : Hd) (k : Fo) (A : Option Addr) (cap : Nat) (w : World), I w → Prn B b bs d w → B ≤ w.heap.size → KV w (fun g => g < B) k A cap → okF (.one h k) → q h.kind → k.deep ≤ n → Bd d k →
  bs.length + (prN d h k).length ≤ lim → Calls Tryz.prog F (bnd.push (nvv h A k.len cap) ++ caps) w (Wrt B b d bs (prN d h k) w)
theorem kinds_drop : ∀ {k : Fo} (i : Nat) {h : Hd} {kk r : Fo}, k.drop i = .cons h kk r → h.kind ∈ k.kinds
  | .nil, i, h, kk, r, e => by cases i <;> simp [Fo.drop] at e
  | .cons h' k' r', 0, h, kk, r, e => by
    rw [Fo.drop] at e
    injection e with e1 e2 e3
    subst e1
    exact List.mem_cons_self
  | .cons h' k' r', i + 1, h, kk, r, e => by
    rw [Fo.drop] at e
    exact List.mem_cons_of_mem _ (kinds_drop i e)
set_option maxHeartbeats 4000000 in
theorem list_w (n : Nat) (B b d : Nat) (F : Nat) (bnd caps : Array Value) (eF : ∀ v w, (callFunc F (bnd.push v ++ caps)).run Tryz.prog w = .ok (.enter F (bnd.push v ++ caps)) w) (I : World → Prop) (hI : ∀ w w' : World, I w → Lib.OthersKept 5 (some b) w w' → I w') (q : Nat → Prop) (E : EachW B b d F bnd caps I q n)
    (bs : List Value) (w : World) (k : Fo) (A : Option Addr) (cap : Nat) (op en : ByteArray) (hi : I w) (hp : Prn B b bs d w) (hB : B ≤ w.heap.size) (hk : KV w (fun g => g < B) k A cap) (ok : okF k) (hq : ∀ x ∈ k.kinds, q x) (dk : k.deep ≤ n + 1) (bk : Bd d k) (x : Bs) (hx : op.data.toList ++ cm (prt d k) ++ en.data.toList = x) (hl : bs.length + x.length ≤ lim) :
    Calls Tryz.prog 70 #[.pointer (some ⟨b, 0, none⟩), .string op, .slice A k.len cap, .func (.func F) bnd caps, .string en] w (Wrt B b d bs x w) := by
  have hlen := congrArg List.length hx
  simp at hlen
  have hbl := hp.lt
  have HX := Lib.hid hx
  have HK := Lib.hid hk
  have HI := Lib.hid hI
  have HE := Lib.hid E
  have HO := Lib.hid ok
  have HQ := Lib.hid hq
  have HBK := Lib.hid bk
  have P0 := Lib.hid (Pw.start hp hB)
  have I0 := Lib.hid hi
  obtain ⟨n0, hn0⟩ : ∃ n0, n0 = k.len := ⟨_, rfl⟩
  have HN := Lib.hid hn0
  have hn1 : n0 ≤ 1000001 := by rw [hn0]; exact bk.ln
  rw [← hn0]
  clear hp hx hk hI E ok hq bk hi hn0
  go_enter Tryz.func70, Tryz.ntmps70
  have C := Lib.hid (P0.out.texts w.heap.size rfl [op] 1 #[.string op] op.data.toList rfl (by simp [cat]) rfl (by simp) hl (by simp <;> omega))
  go_wp2_with fail
  refine C.out.mono ?_
  rintro e w1 ⟨rfl, h1⟩
  have P1 := Lib.hid h1
  have I1 := Lib.hid (HI.out _ _ I0.out h1.oth)
  clear h1 C P0
  go_wp2_with fail
  go_loopg [18] (n0 + 1) (fun kx s18 wr => ∃ (i : Nat) (pr : Bs), s18 = .int .i64 i ∧ n0 - i ≤ kx ∧ i ≤ n0 ∧ Hid (pr ++ restB d k i = cm (prt d k)) ∧ Hid (Pw B b d bs ([] ++ op.data.toList ++ pr) w wr) ∧ Hid (I wr))
  case atStart => exact ⟨0, [], rfl, by omega, by omega, rfl, by unfold Hid; rw [List.append_nil]; exact P1.out, I1.out⟩
  case round =>
    obtain ⟨i, pr, rfl, hkx, hin, HP, H1, H2⟩ := hrel
    clear P1 I1
    have hsz := H1.out.size
    by_cases hi : i < n0
    · have hil : (i : Int) < (n0 : Int) := by omega
      obtain ⟨h', kk, e⟩ := Fo.drop_cons k i (by rw [← HN.out]; exact hi)
      obtain ⟨g, o, A2, c2, hA, hP, hg, hkk, z0, z1, z2, z3, z4, z5⟩ := KV.nth (H1.out.kv HK.out) e
      obtain ⟨bk2, dk2⟩ := HBK.out.kid e
      have ho := okF.drop i HO.out e
      have hqq := HQ.out _ (kinds_drop i e)
      have hst := restB_step d k i h' kk e
      obtain ⟨j, hj⟩ : ∃ j, j = i + 1 := ⟨_, rfl⟩
      have e1 : IntKind.i64.wrap ((i : Int) + 1) = (j : Int) := by rw [IntKind.wrap_i64]; omega
      have hpr := HP.out
      rw [hst, ← hj] at hpr
      have hpl := congrArg List.length hpr
      have HPR := Lib.hid hpr
      have HKK := Lib.hid hkk
      obtain ⟨y1, y2, y3, y4, y5⟩ := h'
      have PA := Lib.hid (H1.out.alloc #[.int .i64 y1, .int .i64 y2, .int .i64 y3, .string y4, .int .i64 y5, .slice A2 kk.len c2] 25)
      have IA := Lib.hid (HI.out _ _ H2.out ((Lib.OthersKept.refl 5 (some b) wr).alloc (.cells #[.int .i64 y1, .int .i64 y2, .int .i64 y3, .string y4, .int .i64 y5, .slice A2 kk.len c2] 25)))
      have RA := Lib.hid (RowB.new wr 25 #[.int .i64 y1, .int .i64 y2, .int .i64 y3, .string y4, .int .i64 y5, .slice A2 kk.len c2])
      have KA := Lib.hid (hkk.below (bel1 wr (.cells #[.int .i64 y1, .int .i64 y2, .int .i64 y3, .string y4, .int .i64 y5, .slice A2 kk.len c2] 25)))
      have eV := eF (nvv ⟨y1, y2, y3, y4, y5⟩ A2 kk.len c2)
      subst hA
      clear hkk hst hpr HP e
      by_cases hz : i = 0
      · have hi2 : ¬ (i : Int) > 0 := by omega
        rw [if_pos hz] at hpl
        simp only [List.length_append, List.length_nil] at hpl
        have C := Lib.hid (HE.out _ _ _ _ _ _ IA.out PA.out.p PA.out.size.1 KA.out ho hqq (by omega) bk2 (by rw [List.length_append, Lib.byteCells_length]; simp <;> omega))
        have HZ := Lib.hid hz
        clear hz
        go_wp2_with fail
        refine C.out.mono ?_
        rintro e w2 hw
        obtain ⟨rfl, h2⟩ := PA.out.step hw
        have P2 : Hid (Pw B b d bs ([] ++ op.data.toList ++ (pr ++ prN d ⟨y1, y2, y3, y4, y5⟩ kk)) w w2) := h2.cast (by simp)
        have I2 := Lib.hid (HI.out _ _ IA.out hw.2.2.2)
        have HP2 : Hid ((pr ++ prN d ⟨y1, y2, y3, y4, y5⟩ kk) ++ restB d k j = cm (prt d k)) := by
          unfold Hid
          rw [← HPR.out, if_pos HZ.out]
          simp
        clear hw h2 C z0 z1 z2 z3 z4 z5
        go_wp2_with fail
        go_roundg (n0 - j)
        case measure => omega
        case rel => exact ⟨j, _, by rw [hj]; go_num, by omega, by omega, HP2.out, P2.out, I2.out⟩
      · have hi2 : (i : Int) > 0 := by omega
        rw [if_neg hz] at hpl
        simp only [List.length_append, List.length_nil, List.length_cons] at hpl
        have CT0 := (texts_new B b d _ [⟨#[44, 32]⟩] 1 #[.string ⟨#[44, 32]⟩] [44, 32] (wr.alloc (.cells #[.int .i64 y1, .int .i64 y2, .int .i64 y3, .string y4, .int .i64 y5, .slice A2 kk.len c2] 25)) PA.out.p rfl (by simp [cat]) rfl (by rw [List.length_append, Lib.byteCells_length]; simp <;> omega) (by simp) PA.out.size.1)
        rw [show (wr.alloc (.cells #[.int .i64 y1, .int .i64 y2, .int .i64 y3, .string y4, .int .i64 y5, .slice A2 kk.len c2] 25)).heap.size = wr.heap.size + 1 by simp] at CT0
        have CT := Lib.hid CT0
        clear CT0
        have HZ := Lib.hid hz
        clear hz
        go_wp2_with fail
        refine CT.out.mono ?_
        rintro e w2 hw
        obtain ⟨rfl, h2⟩ := PA.out.step hw
        have P2 := Lib.hid h2
        have I2 := Lib.hid (HI.out _ _ IA.out hw.2.2.2)
        have r2 := (row_others RA.out hw.2.2.2 (by omega) (by decide)).cell
        have K2 := Lib.hid (P2.out.kv HK.out)
        have KK2 : Hid (KV w2 (fun g => g < B) kk A2 c2) := KA.out.keep hw.2.2.1.size (fun g hg _ => ⟨hw.2.2.1.block g hg, hg⟩)
        have C := Lib.hid (HE.out _ _ _ _ _ _ I2.out P2.out.p P2.out.size.1 KK2.out ho hqq (by omega) bk2 (by rw [List.length_append, Lib.byteCells_length]; simp <;> omega))
        clear hw h2 CT z0 z1 z2 z3 z4 z5
        go_wp2_with fail
        refine C.out.mono ?_
        rintro e w3 hw
        obtain ⟨rfl, h3⟩ := P2.out.step hw
        have P3 : Hid (Pw B b d bs ([] ++ op.data.toList ++ (pr ++ ([44, 32] ++ prN d ⟨y1, y2, y3, y4, y5⟩ kk))) w w3) := h3.cast (by simp)
        have I3 := Lib.hid (HI.out _ _ I2.out hw.2.2.2)
        have HP2 : Hid ((pr ++ ([44, 32] ++ prN d ⟨y1, y2, y3, y4, y5⟩ kk)) ++ restB d k j = cm (prt d k)) := by
          unfold Hid
          rw [← HPR.out, if_neg HZ.out]
          simp
        clear hw h3 C r2
        go_wp2_with fail
        go_roundg (n0 - j)
        case measure => omega
        case rel => exact ⟨j, _, by rw [hj]; go_num, by omega, by omega, HP2.out, P3.out, I3.out⟩
    · have hil : ¬ (i : Int) < (n0 : Int) := by omega
      have hpr := HP.out
      rw [restB_end d k i (by rw [← HN.out]; omega), List.append_nil] at hpr
      have hpl := congrArg List.length hpr
      have C := Lib.hid (H1.out.texts wr.heap.size rfl [en] 1 #[.string en] en.data.toList rfl (by simp [cat]) rfl (by simp) hl (by simp <;> omega))
      have HPR := Lib.hid hpr
      clear hpr HP
      go_wp2_with fail
      refine C.out.mono ?_
      rintro e w2 ⟨rfl, h2⟩
      have P2 := Lib.hid (h2.cast (Y := x) (by rw [← HX.out, ← HPR.out]; simp))
      clear h2 C
      go_wp2_with fail
      go_end0
      exact P2.out.done
end Pg
end Go.Proofs.YtiabkkdeonepgaaGreatDoor
namespace Go.Proofs.YtiabkkdeonepgaaGreatDoor
open Go.RowKit
namespace Pg
open Ps
theorem Pw.written {B b d : Nat} {bs : List Value} {X : Bs} {w0 w : World} {n : Nat} (h : Pw B b d bs X w0 w) (T : NodeW 104 tyK n) {a1 a2 a3 : Nat} {a4 : ByteArray} {a5 : Nat} {k : Fo} {A : Option Addr} {cap : Nat} (hk : KV w (fun g => g < B) k A cap) (oa : okF (.one ⟨a1, a2, a3, a4, a5⟩ k)) (qa : nT a1) (da : k.deep ≤ n) (ba : Bd d k) {x : Bs} (hx : wrB (a1, prN d ⟨a1, a2, a3, a4, a5⟩ k) = x) {L : Nat} (hl : bs.length + L ≤ lim) (hL : X.length + x.length ≤ L) :
    Calls Tryz.prog 72 #[.pointer (some ⟨b, 0, none⟩), nvv ⟨a1, a2, a3, a4, a5⟩ A k.len cap] w (fun e w' => e = .returned (.tuple #[]) ∧ Pw B b d bs (X ++ x) w0 w') :=
  (written_w n T B b d _ w a1 a2 a3 a4 a5 k A cap h.p h.size.1 hk oa qa da ba x hx (by rw [List.length_append, Lib.byteCells_length]; omega)).mono fun _ _ hw => h.step hw
set_option maxHeartbeats 2000000 in
theorem declared_w (n : Nat) (T : NodeW 104 tyK n) (B b d : Nat) (bs : List Value) (w : World) (x1 x2 x3 : Nat) (x4 : ByteArray) (x5 : Nat) (a : Hd) (ak : Fo) (A : Option Addr) (cap : Nat) (hp : Prn B b bs d w) (hB : B ≤ w.heap.size)
    (hk : KV w (fun g => g < B) (.cons a ak .nil) A cap) (oa : okF (.one a ak)) (qa : nT a.kind) (da : ak.deep ≤ n) (ba : Bd d ak) (x : Bs) (hx : x4.data.toList ++ wrB (a.kind, prN d a ak) = x) (hl : bs.length + x.length ≤ lim) :
    Calls Tryz.prog 71 #[.pointer (some ⟨b, 0, none⟩), .agg #[.int .i64 x1, .int .i64 x2, .int .i64 x3, .string x4, .int .i64 x5, .slice A 1 cap]] w (Wrt B b d bs x w) := by
  obtain ⟨g, o, rfl, hg, hkid⟩ := KidAt.of hk (by simp [Fo.len])
  have hlen := congrArg List.length hx
  simp at hlen
  have hbl := hp.lt
  have HX := Lib.hid hx
  have P0 := Lib.hid (Pw.start (hp.below (bel1 w (.cells #[.int .i64 x1, .int .i64 x2, .int .i64 x3, .string x4, .int .i64 x5, .slice (some ⟨g, o, none⟩) 1 cap] 25))) (by simp; omega))
  have R0 := Lib.hid (RowB.new w 25 #[.int .i64 x1, .int .i64 x2, .int .i64 x3, .string x4, .int .i64 x5, .slice (some ⟨g, o, none⟩) 1 cap])
  obtain ⟨a1, a2, a3, a4, a5⟩ := a
  obtain ⟨Aa, ca, ka⟩ := hkid 0 _ _ _ rfl
  rw [show o + 0 * 6 = o by omega] at ka
  have Ka := Lib.hid (ka.keep ((Below.refl B w).alloc hB (.cells #[.int .i64 x1, .int .i64 x2, .int .i64 x3, .string x4, .int .i64 x5, .slice (some ⟨g, o, none⟩) 1 cap] 25)))
  clear ka
  clear hkid hk hp hx
  go_enter Tryz.func71, Tryz.ntmps71
  have C := Lib.hid (P0.out.texts (w.heap.size + 1) (by simp) [x4] 1 #[.string x4] x4.data.toList rfl (by simp [cat]) rfl (by simp) hl (by simp <;> omega))
  have rc := R0.out.cell
  go_wp2_with fail
  refine C.out.mono ?_
  rintro e w1 ⟨rfl, h1⟩
  have P1 := Lib.hid h1
  have R1 := Lib.hid (P1.out.row R0.out (by omega) (by decide))
  clear h1 C rc
  have q := Ka.out.keep P1.out.bl
  have C := Lib.hid (P1.out.written T q.kv oa qa da ba rfl hl (by simp <;> omega))
  have rc := R1.out.cell
  have m0 := q.c0
  have m1 := q.c1
  have m2 := q.c2
  have m3 := q.c3
  have m4 := q.c4
  have m5 := q.c5
  clear q
  go_wp2_with fail
  refine C.out.mono ?_
  rintro e w2 ⟨rfl, h1⟩
  have P2 := Lib.hid h1
  have R2 := Lib.hid (P2.out.row R0.out (by omega) (by decide))
  clear h1 C rc m0 m1 m2 m3 m4 m5
  go_wp2_with fail
  go_end0
  exact (P2.out.cast (by rw [← HX.out]; simp)).doneA hB
def LbI (b F g1 : Nat) (w : World) : Prop := g1 ≠ b ∧ g1 + 1 ≠ b ∧ RowB w g1 69 #[.pointer (some ⟨b, 0, none⟩)] ∧ RowB w (g1 + 1) 52 #[.func (.func F) #[.pointer (some ⟨b, 0, none⟩)] #[]]
theorem LbI.keep {b F g1 : Nat} {w w' : World} (h : LbI b F g1 w) (ho : Lib.OthersKept 5 (some b) w w') : LbI b F g1 w' :=
  ⟨h.1, h.2.1, row_others h.2.2.1 ho h.1 (by decide), row_others h.2.2.2 ho h.2.1 (by decide)⟩
set_option maxHeartbeats 4000000 in
theorem lab_w (n F : Nat) (q : Nat → Prop) (E : NodeW F q n) (eF : ∀ args w, (callFunc F args).run Tryz.prog w = .ok (.enter F args) w) (B b d g1 : Nat) (bs : List Value) (w : World) (x1 x2 x3 : Nat) (x4 : ByteArray) (x5 : Nat) (a : Hd) (ak : Fo) (A : Option Addr) (cap : Nat) (hi : LbI b F g1 w) (hp : Prn B b bs d w) (hB : B ≤ w.heap.size)
    (hk : KV w (fun g => g < B) (.cons a ak .nil) A cap) (oa : okF (.one a ak)) (qa : q a.kind) (da : ak.deep ≤ n) (ba : Bd d ak) (x : Bs) (hx : x4.data.toList ++ [58, 32] ++ prN d a ak = x) (hl : bs.length + x.length ≤ lim) :
    Calls Tryz.prog 139 #[.agg #[.int .i64 x1, .int .i64 x2, .int .i64 x3, .string x4, .int .i64 x5, .slice A 1 cap], .pointer (some ⟨g1, 0, none⟩), .pointer (some ⟨g1 + 1, 0, none⟩)] w (Wrt B b d bs x w) := by
  obtain ⟨g, o, rfl, hg, hkid⟩ := KidAt.of hk (by simp [Fo.len])
  have hlen := congrArg List.length hx
  simp at hlen
  have hbl := hp.lt
  have HX := Lib.hid hx
  have P0 := Lib.hid (Pw.start (hp.below (bel1 w (.cells #[.int .i64 x1, .int .i64 x2, .int .i64 x3, .string x4, .int .i64 x5, .slice (some ⟨g, o, none⟩) 1 cap] 25))) (by simp; omega))
  have R0 := Lib.hid (RowB.new w 25 #[.int .i64 x1, .int .i64 x2, .int .i64 x3, .string x4, .int .i64 x5, .slice (some ⟨g, o, none⟩) 1 cap])
  obtain ⟨a1, a2, a3, a4, a5⟩ := a
  obtain ⟨Aa, ca, ka⟩ := hkid 0 _ _ _ rfl
  rw [show o + 0 * 6 = o by omega] at ka
  have Ka := Lib.hid (ka.keep ((Below.refl B w).alloc hB (.cells #[.int .i64 x1, .int .i64 x2, .int .i64 x3, .string x4, .int .i64 x5, .slice (some ⟨g, o, none⟩) 1 cap] 25)))
  clear ka
  have J0 := Lib.hid (hi.keep ((Lib.OthersKept.refl 5 (some b) w).alloc (.cells #[.int .i64 x1, .int .i64 x2, .int .i64 x3, .string x4, .int .i64 x5, .slice (some ⟨g, o, none⟩) 1 cap] 25)))
  clear hkid hk hp hx hi
  go_enter Tryz.func139, Tryz.ntmps139
  have rj := J0.out.2.2.1.cell
  have C := Lib.hid (P0.out.texts (w.heap.size + 1) (by simp) [x4, ⟨#[58, 32]⟩] 2 #[.string x4, .string ⟨#[58, 32]⟩] (x4.data.toList ++ [58, 32]) rfl (by simp [cat]) rfl (by simp) hl (by simp <;> omega))
  have rc := R0.out.cell
  go_wp2_with fail
  refine C.out.mono ?_
  rintro e w1 ⟨rfl, h1⟩
  have P1 := Lib.hid h1
  have R1 := Lib.hid (P1.out.row R0.out (by omega) (by decide))
  clear h1 C rc
  have J1 := Lib.hid (J0.out.keep P1.out.oth)
  clear rj
  have PD := Lib.hid (P1.out.other ((Below.refl _ w1).drew))
  have q := Ka.out.keep PD.out.bl
  have C := Lib.hid (PD.out.node E q.kv oa qa da ba hl (by simp <;> omega))
  have HS0 : (∀ j, w1.drew.cell? ⟨w.heap.size, j, none⟩ = #[.int .i64 x1, .int .i64 x2, .int .i64 x3, .string x4, .int .i64 x5, .slice (some ⟨g, o, none⟩) 1 cap][j]?) ∧ (∀ j, w1.drew.cell? ⟨g1 + 1, j, none⟩ = #[Value.func (.func F) #[.pointer (some ⟨b, 0, none⟩)] #[]][j]?) ∧ w1.drew.cell? ⟨g, o, none⟩ = some (.int .i64 a1) ∧ w1.drew.cell? ⟨g, o + 1, none⟩ = some (.int .i64 a2) ∧ w1.drew.cell? ⟨g, o + 2, none⟩ = some (.int .i64 a3) ∧ w1.drew.cell? ⟨g, o + 3, none⟩ = some (.string a4) ∧ w1.drew.cell? ⟨g, o + 4, none⟩ = some (.int .i64 a5) ∧ w1.drew.cell? ⟨g, o + 5, none⟩ = some (.slice Aa ak.len ca) := ⟨(PD.out.row R0.out (by omega) (by decide)).cell, (J0.out.keep PD.out.oth).2.2.2.cell, q.c0, q.c1, q.c2, q.c3, q.c4, q.c5⟩
  clear q
  go_wp2_with fail
  go_region_held3 (fun w' => (∀ j, w'.cell? ⟨w.heap.size, j, none⟩ = #[.int .i64 x1, .int .i64 x2, .int .i64 x3, .string x4, .int .i64 x5, .slice (some ⟨g, o, none⟩) 1 cap][j]?) ∧ (∀ j, w'.cell? ⟨g1 + 1, j, none⟩ = #[Value.func (.func F) #[.pointer (some ⟨b, 0, none⟩)] #[]][j]?) ∧ w'.cell? ⟨g, o, none⟩ = some (.int .i64 a1) ∧ w'.cell? ⟨g, o + 1, none⟩ = some (.int .i64 a2) ∧ w'.cell? ⟨g, o + 2, none⟩ = some (.int .i64 a3) ∧ w'.cell? ⟨g, o + 3, none⟩ = some (.string a4) ∧ w'.cell? ⟨g, o + 4, none⟩ = some (.int .i64 a5) ∧ w'.cell? ⟨g, o + 5, none⟩ = some (.slice Aa ak.len ca))
    (first
      | (with_reducible exact HS1)
      | (with_reducible exact HS0))
    (first
      | (refine C.out.mono ?_; rintro e w2 ⟨rfl, h1⟩; have P2 := Lib.hid h1; have R2 := P2.out.row R0.out (by omega) (by decide); have J2 := J0.out.keep P2.out.oth; have q2 := Ka.out.keep P2.out.bl; have HS1 := (And.intro R2.cell (And.intro J2.2.2.2.cell (And.intro q2.c0 (And.intro q2.c1 (And.intro q2.c2 (And.intro q2.c3 (And.intro q2.c4 q2.c5))))))))
      | fail)
  go_wp2
  go_end0
  exact (P2.out.cast (by rw [← HX.out]; simp)).doneA hB
theorem labelled_mk (b F : Nat) (w : World) :
    Calls Tryz.prog 123 #[.pointer (some ⟨b, 0, none⟩), .func (.func F) #[.pointer (some ⟨b, 0, none⟩)] #[]] w fun e w' => e = .returned (.func (.func 139) #[] #[.pointer (some ⟨w.heap.size, 0, none⟩), .pointer (some ⟨w.heap.size + 1, 0, none⟩)]) ∧
      w' = (w.alloc (.cells #[.pointer (some ⟨b, 0, none⟩)] 69)).alloc (.cells #[.func (.func F) #[.pointer (some ⟨b, 0, none⟩)] #[]] 52) := by
  go_enter Tryz.func123, Tryz.ntmps123
  go_wp2_with fail
  go_ret
  exact ⟨rfl, rfl⟩
theorem LbI.new (b F : Nat) (w : World) (hb : b < w.heap.size) : LbI b F w.heap.size ((w.alloc (.cells #[.pointer (some ⟨b, 0, none⟩)] 69)).alloc (.cells #[.func (.func F) #[.pointer (some ⟨b, 0, none⟩)] #[]] 52)) := by
  refine ⟨by omega, by omega, (RowB.new w 69 _).alloc _, ?_⟩
  have := RowB.new (w.alloc (.cells #[.pointer (some ⟨b, 0, none⟩)] 69)) 52 #[.func (.func F) #[.pointer (some ⟨b, 0, none⟩)] #[]]
  simpa using this
end Pg
end Go.Proofs.YtiabkkdeonepgaaGreatDoor
namespace Go.Proofs.YtiabkkdeonepgaaGreatDoor
open Go.RowKit
namespace Pg
open Ps
theorem Pw.list {B b d : Nat} {bs : List Value} {X : Bs} {w0 w : World} (h : Pw B b d bs X w0 w) (n : Nat) (F : Nat) (bnd caps : Array Value) (eF : ∀ v w, (callFunc F (bnd.push v ++ caps)).run Tryz.prog w = .ok (.enter F (bnd.push v ++ caps)) w) (I : World → Prop) (hI : ∀ w w' : World, I w → Lib.OthersKept 5 (some b) w w' → I w') (q : Nat → Prop) (E : EachW B b d F bnd caps I q n)
    {k : Fo} {A : Option Addr} {cap : Nat} (op en : ByteArray) (hi : I w) (hk : KV w (fun g => g < B) k A cap) (ok : okF k) (hq : ∀ x ∈ k.kinds, q x) (dk : k.deep ≤ n + 1) (bk : Bd d k) (x : Bs) (hx : op.data.toList ++ cm (prt d k) ++ en.data.toList = x) {L : Nat} (hl : bs.length + L ≤ lim) (hL : X.length + x.length ≤ L) :
    Calls Tryz.prog 70 #[.pointer (some ⟨b, 0, none⟩), .string op, .slice A k.len cap, .func (.func F) bnd caps, .string en] w (fun e w' => e = .returned (.tuple #[]) ∧ Pw B b d bs (X ++ x) w0 w') :=
  (list_w n B b d F bnd caps eF I hI q E _ w k A cap op en hi h.p h.size.1 hk ok hq dk bk x hx (by rw [List.length_append, Lib.byteCells_length]; omega)).mono fun _ _ hw => h.step hw
theorem Pw.up {B b d : Nat} {bs : List Value} {X : Bs} {w0 w : World} (h : Pw B b d bs X w0 w) (m : Nat) : Pw B b m bs X w0 (w.setCell ⟨b, 2, none⟩ (.int .i64 m)) :=
  ⟨h.p.set2 m, h.bl.setCell (p := ⟨b, 2, none⟩) h.p.lt.2 _, h.oth.trans (others_setCell w b 2 _), h.bw, h.lt⟩
theorem prN4 (d : Nat) (p : Hd) (pk : Fo) (h : p.kind = 4) : prN d p pk = [40] ++ cm (prt d pk) ++ [41] := by
  obtain ⟨p1, p2, p3, p4, p5⟩ := p
  dsimp only at h
  subst h
  rfl
theorem shp4 {k : Nat} {ks : List Nat} (h : shp k ks) (hk : k = 4) : ∀ x ∈ ks, x = 5 := by subst hk; exact h
theorem kinds1 {k : Fo} {t : Nat} (h : k.kinds = [t]) : ∃ a ak, k = .cons a ak .nil ∧ a.kind = t := by
  cases k with
  | nil => cases h
  | cons a ak r =>
    cases r with
    | nil => simp [Fo.kinds] at h; exact ⟨a, ak, rfl, h⟩
    | cons _ _ _ => simp [Fo.kinds] at h
theorem kinds2 {k : Fo} {t u : Nat} (h : k.kinds = [t, u]) : ∃ a ak c ck, k = .cons a ak (.cons c ck .nil) ∧ a.kind = t ∧ c.kind = u := by
  cases k with
  | nil => cases h
  | cons a ak r =>
    have h2 : a.kind = t ∧ r.kinds = [u] := by simpa [Fo.kinds] using h
    obtain ⟨c, ck, rfl, hc⟩ := kinds1 h2.2
    exact ⟨a, ak, c, ck, rfl, h2.1, hc⟩
theorem kinds3 {k : Fo} {t u v : Nat} (h : k.kinds = [t, u, v]) : ∃ a ak c ck e ek, k = .cons a ak (.cons c ck (.cons e ek .nil)) ∧ a.kind = t ∧ c.kind = u ∧ e.kind = v := by
  cases k with
  | nil => cases h
  | cons a ak r =>
    have h2 : a.kind = t ∧ r.kinds = [u, v] := by simpa [Fo.kinds] using h
    obtain ⟨c, ck, e, ek, rfl, hc, he⟩ := kinds2 h2.2
    exact ⟨a, ak, c, ck, e, ek, rfl, h2.1, hc, he⟩
theorem each_declared (n : Nat) (T : NodeW 104 tyK n) (B b d : Nat) : EachW B b d 71 #[.pointer (some ⟨b, 0, none⟩)] #[] (fun _ => True) (· = 5) (n + 1) := by
  intro bs h k A cap w _ hp hB hk ho hq hd hb hl
  obtain ⟨x1, x2, x3, x4, x5⟩ := h
  dsimp only at hq
  subst hq
  obtain ⟨t, ht, hn⟩ := (ho.1.2 : ∃ t, k.kinds = [t] ∧ nT t)
  obtain ⟨a, ak, rfl, ha⟩ := kinds1 ht
  obtain ⟨b1, d1⟩ := hb.kid (i := 0) (h := a) rfl
  rw [show (#[.pointer (some ⟨b, 0, none⟩)] : Array Value).push (nvv ⟨5, x2, x3, x4, x5⟩ A (Fo.cons a ak .nil).len cap) ++ #[] = #[.pointer (some ⟨b, 0, none⟩), nvv ⟨5, x2, x3, x4, x5⟩ A (Fo.cons a ak .nil).len cap] by simp]
  exact declared_w n T B b d bs w 5 x2 x3 x4 x5 a ak A cap hp hB hk ⟨ho.2.1.1, ho.2.1.2.1, trivial⟩ (by rw [ha]; exact hn) (by omega) b1 _ rfl hl
theorem enter71 : ∀ args w, (callFunc 71 args).run Tryz.prog w = .ok (.enter 71 args) w := enters_of Tryz.func71 (by kernel_rfl) rfl
set_option maxHeartbeats 4000000 in
theorem function_w (n : Nat) (T : NodeW 104 tyK n) (Bk : NodeW 73 (· = 6) n) (B b d : Nat) (bs : List Value) (w : World) (x1 x2 x3 : Nat) (x4 : ByteArray) (x5 : Nat) (p t q : Hd) (pk tk qk : Fo) (A : Option Addr) (cap : Nat) (hp : Prn B b bs d w) (hB : B ≤ w.heap.size)
    (hk : KV w (fun g => g < B) (.cons p pk (.cons t tk (.cons q qk .nil))) A cap) (op : okF (.one p pk)) (ot : okF (.one t tk)) (oq : okF (.one q qk)) (qp : p.kind = 4) (qt : nT t.kind) (qq : q.kind = 6) (dk : (Fo.cons p pk (.cons t tk (.cons q qk .nil))).deep ≤ n + 1) (bk : Bd d (.cons p pk (.cons t tk (.cons q qk .nil)))) (x : Bs) (hx : fnB (prt d (.cons p pk (.cons t tk (.cons q qk .nil)))) = x) (hl : bs.length + x.length ≤ lim) :
    Calls Tryz.prog 47 #[.pointer (some ⟨b, 0, none⟩), .agg #[.int .i64 x1, .int .i64 x2, .int .i64 x3, .string x4, .int .i64 x5, .slice A 3 cap]] w (Wrt B b d bs x w) := by
  obtain ⟨g, o, rfl, hg, hkid⟩ := KidAt.of hk (by simp [Fo.len])
  obtain ⟨b1, da1⟩ := bk.kid (i := 0) (h := p) rfl
  obtain ⟨b2, da2⟩ := bk.kid (i := 1) (h := t) rfl
  obtain ⟨b3, da3⟩ := bk.kid (i := 2) (h := q) rfl
  have hpp : prN d p pk = [40] ++ cm (prt d pk) ++ [41] := prN4 d p pk qp
  have hpc := op.2.1
  have hps : ∀ x ∈ pk.kinds, x = 5 := shp4 op.1.2 qp
  have hx2 : [40] ++ cm (prt d pk) ++ [41] ++ wrB (t.kind, prN d t tk) ++ [32] ++ prN d q qk = x := by rw [← hx, ← hpp]; rfl
  have hlen := congrArg List.length hx2
  simp at hlen
  have hbl := hp.lt
  have HX := Lib.hid hx2
  have P0 := Lib.hid (Pw.start (hp.below (bel1 w (.cells #[.int .i64 x1, .int .i64 x2, .int .i64 x3, .string x4, .int .i64 x5, .slice (some ⟨g, o, none⟩) 3 cap] 25))) (by simp; omega))
  have R0 := Lib.hid (RowB.new w 25 #[.int .i64 x1, .int .i64 x2, .int .i64 x3, .string x4, .int .i64 x5, .slice (some ⟨g, o, none⟩) 3 cap])
  obtain ⟨p1, p2, p3, p4, p5⟩ := p
  obtain ⟨t1, t2, t3, t4, t5⟩ := t
  obtain ⟨q1, q2, q3, q4, q5⟩ := q
  have HQQ := Lib.hid qq
  clear qp qq
  obtain ⟨Ap, cp, kp⟩ := hkid 0 _ _ _ rfl
  rw [show o + 0 * 6 = o by omega] at kp
  have Kp := Lib.hid (kp.keep ((Below.refl B w).alloc hB (.cells #[.int .i64 x1, .int .i64 x2, .int .i64 x3, .string x4, .int .i64 x5, .slice (some ⟨g, o, none⟩) 3 cap] 25)))
  clear kp
  obtain ⟨At, ct, kt⟩ := hkid 1 _ _ _ rfl
  rw [show o + 1 * 6 = o + 6 by omega] at kt
  have Kt := Lib.hid (kt.keep ((Below.refl B w).alloc hB (.cells #[.int .i64 x1, .int .i64 x2, .int .i64 x3, .string x4, .int .i64 x5, .slice (some ⟨g, o, none⟩) 3 cap] 25)))
  clear kt
  obtain ⟨Aq, cq, kq⟩ := hkid 2 _ _ _ rfl
  rw [show o + 2 * 6 = o + 12 by omega] at kq
  have Kq := Lib.hid (kq.keep ((Below.refl B w).alloc hB (.cells #[.int .i64 x1, .int .i64 x2, .int .i64 x3, .string x4, .int .i64 x5, .slice (some ⟨g, o, none⟩) 3 cap] 25)))
  clear kq
  clear hkid hk hp hx hx2 hpp
  go_enter Tryz.func47, Tryz.ntmps47
  have q := Kp.out.keep P0.out.bl
  have C := Lib.hid (P0.out.list (n + 1) 71 #[.pointer (some ⟨b, 0, none⟩)] #[] (fun v w => enter71 _ w) (fun _ => True) (fun _ _ _ _ => trivial) (· = 5) (each_declared n T B b d) ⟨#[40]⟩ ⟨#[41]⟩ trivial q.kv hpc hps (by omega) b1 ([40] ++ cm (prt d pk) ++ [41]) rfl hl (by simp <;> omega))
  have rc := R0.out.cell
  have m5 := q.c5
  clear q
  go_wp2_with fail
  refine C.out.mono ?_
  rintro e w1 ⟨rfl, h1⟩
  have P1 := Lib.hid h1
  have R1 := Lib.hid (P1.out.row R0.out (by omega) (by decide))
  clear h1 C rc m5
  have q := Kt.out.keep P1.out.bl
  have C := Lib.hid (P1.out.written T q.kv ot qt (by omega) b2 rfl hl (by simp <;> omega))
  have rc := R1.out.cell
  have m0 := q.c0
  have m1 := q.c1
  have m2 := q.c2
  have m3 := q.c3
  have m4 := q.c4
  have m5 := q.c5
  clear q
  go_wp2_with fail
  refine C.out.mono ?_
  rintro e w2 ⟨rfl, h1⟩
  have P2 := Lib.hid h1
  have R2 := Lib.hid (P2.out.row R0.out (by omega) (by decide))
  clear h1 C rc m0 m1 m2 m3 m4 m5
  have C := Lib.hid (P2.out.texts w2.heap.size rfl [⟨#[32]⟩] 1 #[.string ⟨#[32]⟩] [32] rfl (by simp [cat]) rfl (by simp) hl (by simp <;> omega))
  have rc := R2.out.cell
  go_wp2_with fail
  refine C.out.mono ?_
  rintro e w3 ⟨rfl, h1⟩
  have P3 := Lib.hid h1
  have R3 := Lib.hid (P3.out.row R0.out (by omega) (by decide))
  clear h1 C rc
  have q := Kq.out.keep P3.out.bl
  have C := Lib.hid (P3.out.node Bk q.kv oq HQQ.out (by omega) b3 hl (by simp <;> omega))
  have rc := R3.out.cell
  have m0 := q.c0
  have m1 := q.c1
  have m2 := q.c2
  have m3 := q.c3
  have m4 := q.c4
  have m5 := q.c5
  clear q
  go_wp2_with fail
  refine C.out.mono ?_
  rintro e w4 ⟨rfl, h1⟩
  have P4 := Lib.hid h1
  have R4 := Lib.hid (P4.out.row R0.out (by omega) (by decide))
  clear h1 C rc m0 m1 m2 m3 m4 m5
  go_wp2_with fail
  go_end0
  exact (P4.out.cast (by rw [← HX.out]; simp)).doneA hB
end Pg
end Go.Proofs.YtiabkkdeonepgaaGreatDoor
namespace Go.Proofs.YtiabkkdeonepgaaGreatDoor
open Go.RowKit
namespace Pg
open Ps
set_option maxHeartbeats 4000000 in
theorem block_w (N : Nat) (S : ∀ m, m < N → NodeW 105 stK m) (B b d : Nat) (bs : List Value) (w : World) (x1 x2 x3 : Nat) (x4 : ByteArray) (x5 : Nat) (k : Fo) (A : Option Addr) (cap : Nat) (hp : Prn B b bs d w) (hB : B ≤ w.heap.size)
    (hk : KV w (fun g => g < B) k A cap) (ok : okF k) (hq : ∀ x ∈ k.kinds, stK x) (dk : k.deep ≤ N) (bk : Bd d k) (x : Bs) (hx : [123] ++ linesB (d + 1) (prt (d + 1) k) ++ (if prt (d + 1) k = [] then [] else lineB d) ++ [125] = x) (hl : bs.length + x.length ≤ lim) :
    Calls Tryz.prog 73 #[.pointer (some ⟨b, 0, none⟩), .agg #[.int .i64 x1, .int .i64 x2, .int .i64 x3, .string x4, .int .i64 x5, .slice A k.len cap]] w (Wrt B b d bs x w) := by
  have hlen := congrArg List.length hx
  simp at hlen
  have hbl := hp.lt
  obtain ⟨n0, hn0⟩ : ∃ n0, n0 = k.len := ⟨_, rfl⟩
  have HN := Lib.hid hn0
  have hn1 : n0 ≤ 1000001 := by rw [hn0]; exact bk.ln
  rw [← hn0]
  have HX := Lib.hid hx
  have P0 := Lib.hid (Pw.start (hp.below (bel1 w (.cells #[.int .i64 x1, .int .i64 x2, .int .i64 x3, .string x4, .int .i64 x5, .slice A n0 cap] 25))) (by simp; omega))
  have R0 := Lib.hid (RowB.new w 25 #[.int .i64 x1, .int .i64 x2, .int .i64 x3, .string x4, .int .i64 x5, .slice A n0 cap])
  have HK := Lib.hid (hk.below (bel1 w (.cells #[.int .i64 x1, .int .i64 x2, .int .i64 x3, .string x4, .int .i64 x5, .slice A n0 cap] 25)))
  have HO := Lib.hid ok
  have HQ := Lib.hid hq
  have HBK := Lib.hid bk
  have HD5 := Lib.hid bk.dp
  clear hp hx hk ok hq bk hn0
  go_enter Tryz.func73, Tryz.ntmps73
  have C := Lib.hid (P0.out.texts (w.heap.size + 1) (by simp) [⟨#[123]⟩] 1 #[.string ⟨#[123]⟩] [123] rfl (by simp [cat]) rfl (by simp) hl (by simp <;> omega))
  have rc := R0.out.cell
  go_wp2_with fail
  refine C.out.mono ?_
  rintro e w1 ⟨rfl, h1⟩
  have P1 := Lib.hid h1
  have R1 := Lib.hid (P1.out.row R0.out (by omega) (by decide))
  clear h1 C rc
  have c2 := P1.out.p.cell2
  have f2 := P1.out.p.froz 2
  obtain ⟨d1, hd1⟩ : ∃ d1, d1 = d + 1 := ⟨_, rfl⟩
  have e1 : IntKind.i64.wrap ((d : Int) + 1) = (d1 : Int) := by have := HD5.out; rw [IntKind.wrap_i64]; omega
  have P2 := Lib.hid (P1.out.up d1)
  have R2 := Lib.hid (P2.out.row R0.out (by omega) (by decide))
  have rc := R2.out.cell
  rw [← hd1] at hlen HX
  have HD1 := Lib.hid hd1
  clear hd1
  go_wp2_with fail
  go_loopg [19] (n0 + 1) (fun kx s19 wr => ∃ (i : Nat) (pr : Bs), s19 = .int .i64 i ∧ n0 - i ≤ kx ∧ i ≤ n0 ∧ Hid (pr ++ linesB d1 (prt d1 (k.drop i)) = linesB d1 (prt d1 k)) ∧ Hid (Pw B b d1 bs ([] ++ [123] ++ pr) (w.alloc (.cells #[.int .i64 x1, .int .i64 x2, .int .i64 x3, .string x4, .int .i64 x5, .slice A n0 cap] 25)) wr))
  case atStart => exact ⟨0, [], rfl, by omega, by omega, by unfold Hid; rw [Fo.drop_zero]; rfl, by unfold Hid; rw [List.append_nil]; exact P2.out⟩
  case round =>
    obtain ⟨i, pr, rfl, hkx, hin, HP, H1⟩ := hrel
    clear P1 P2 R1 R2 rc c2 f2 e1
    have hsz := H1.out.size
    have hbw := H1.out.p.lt.1
    by_cases hi : i < n0
    · have hil : (i : Int) < (n0 : Int) := by omega
      obtain ⟨h', kk, e⟩ := Fo.drop_cons k i (by rw [← HN.out]; exact hi)
      obtain ⟨g, o, A2, c2, hA, hP, hg, hkk, z0, z1, z2, z3, z4, z5⟩ := KV.nth (H1.out.kv HK.out) e
      obtain ⟨bk2, dk2⟩ := HBK.out.kid e
      have ho := okF.drop i HO.out e
      have hqq := HQ.out _ (kinds_drop i e)
      have hst : linesB d1 (prt d1 (k.drop i)) = lineB d1 ++ prN d1 h' kk ++ linesB d1 (prt d1 (k.drop (i + 1))) := by rw [e]; rfl
      obtain ⟨j, hj⟩ : ∃ j, j = i + 1 := ⟨_, rfl⟩
      have e1 : IntKind.i64.wrap ((i : Int) + 1) = (j : Int) := by rw [IntKind.wrap_i64]; omega
      have hpr := HP.out
      rw [hst, ← hj] at hpr
      have hpl := congrArg List.length hpr
      simp at hpl
      have HPR := Lib.hid hpr
      have bk3 : Bd d1 kk := ⟨by have := bk2.dp; have := HD5.out; have := HD1.out; omega, bk2.ln, bk2.wd⟩
      obtain ⟨y1, y2, y3, y4, y5⟩ := h'
      have PA := Lib.hid (H1.out.alloc #[.int .i64 y1, .int .i64 y2, .int .i64 y3, .string y4, .int .i64 y5, .slice A2 kk.len c2] 25)
      have RA := Lib.hid (RowB.new wr 25 #[.int .i64 y1, .int .i64 y2, .int .i64 y3, .string y4, .int .i64 y5, .slice A2 kk.len c2])
      have KA := Lib.hid (hkk.below (bel1 wr (.cells #[.int .i64 y1, .int .i64 y2, .int .i64 y3, .string y4, .int .i64 y5, .slice A2 kk.len c2] 25)))
      have CL := Lib.hid (line_any B b d1 _ _ PA.out.p (by have := HD5.out; have := HD1.out; omega) (by rw [List.length_append, Lib.byteCells_length]; simp <;> omega) PA.out.size.1)
      subst hA
      clear hkk hst hpr HP e
      go_wp2_with fail
      refine CL.out.mono ?_
      rintro e w2 hw
      obtain ⟨rfl, h2⟩ := PA.out.step hw
      have P2 := Lib.hid h2
      have r2 := (row_others RA.out hw.2.2.2 (by omega) (by decide)).cell
      have KK2 : Hid (KV w2 (fun g => g < B) kk A2 c2) := KA.out.keep hw.2.2.1.size (fun g hg _ => ⟨hw.2.2.1.block g hg, hg⟩)
      have C := Lib.hid (P2.out.node (S kk.deep (by omega)) KK2.out ho hqq (Nat.le_refl _) bk3 hl (by simp <;> omega))
      clear hw h2 CL z0 z1 z2 z3 z4 z5
      go_wp2_with fail
      refine C.out.mono ?_
      rintro e w3 ⟨rfl, h3⟩
      have P3 := Lib.hid (h3.cast (Y := [] ++ [123] ++ (pr ++ (lineB d1 ++ prN d1 ⟨y1, y2, y3, y4, y5⟩ kk))) (by simp))
      have HP2 : Hid ((pr ++ (lineB d1 ++ prN d1 ⟨y1, y2, y3, y4, y5⟩ kk)) ++ linesB d1 (prt d1 (k.drop j)) = linesB d1 (prt d1 k)) := by
        unfold Hid
        rw [← HPR.out]
        simp
      clear h3 C r2
      go_wp2_with fail
      go_roundg (n0 - j)
      case measure => omega
      case rel => exact ⟨j, _, by rw [hj]; go_num, by omega, by omega, HP2.out, P3.out⟩
    · have hil : ¬ (i : Int) < (n0 : Int) := by omega
      have hpr := HP.out
      rw [Fo.drop_end k i (by rw [← HN.out]; omega)] at hpr
      have hpr2 : pr = linesB d1 (prt d1 k) := by rw [← hpr]; simp [prt, linesB]
      have e1 : IntKind.i64.wrap ((d1 : Int) - 1) = (d : Int) := by have := HD5.out; have := HD1.out; rw [IntKind.wrap_i64]; omega
      have c2 := H1.out.p.cell2
      have f2 := H1.out.p.froz 2
      have P4 := Lib.hid (H1.out.up d)
      have R4 := Lib.hid (P4.out.row R0.out (by omega) (by decide))
      have rc := R4.out.cell
      have hW : (wr.setCell ⟨b, 2, none⟩ (.int .i64 d)).heap.size = wr.heap.size := by simp [World.setCell]
      subst hpr2
      clear hpr HP
      by_cases hz : n0 = 0
      · have hz0 : ¬ (n0 : Int) > 0 := by omega
        have hnil : prt d1 k = [] := by
          have : k = .nil := by
            cases k with
            | nil => rfl
            | cons _ _ _ => have := HN.out; simp [Fo.len] at this; omega
          rw [this]; rfl
        have CT := Lib.hid (P4.out.texts wr.heap.size hW [⟨#[125]⟩] 1 #[.string ⟨#[125]⟩] [125] rfl (by simp [cat]) rfl (by simp) hl (by rw [hnil] at hlen ⊢; simp [linesB] at hlen ⊢ <;> omega))
        have HX2 : Hid ([123] ++ linesB d1 (prt d1 k) ++ [125] = x) := by
          unfold Hid
          rw [← HX.out, if_pos hnil]
          simp
        clear hz hnil
        go_wp2_with fail
        refine CT.out.mono ?_
        rintro e w5 ⟨rfl, h5⟩
        have P5 := Lib.hid h5
        clear h5 CT
        go_wp2_with fail
        go_end0
        exact (P5.out.cast (by rw [← HX2.out]; simp)).doneA hB
      · have hz0 : (n0 : Int) > 0 := by omega
        have hnn : prt d1 k ≠ [] := prt_ne (fun e => by rw [e] at HN; have := HN.out; simp [Fo.len] at this; omega)
        rw [if_neg hnn] at hlen
        have CL := Lib.hid (P4.out.line (by have := HD5.out; omega) hl (by simp <;> omega))
        have HX2 : Hid ([123] ++ linesB d1 (prt d1 k) ++ lineB d ++ [125] = x) := by
          unfold Hid
          rw [← HX.out, if_neg hnn]
        clear hz hnn
        go_wp2_with fail
        refine CL.out.mono ?_
        rintro e w5 ⟨rfl, h5⟩
        have P5 := Lib.hid h5
        have CT := Lib.hid (P5.out.texts w5.heap.size rfl [⟨#[125]⟩] 1 #[.string ⟨#[125]⟩] [125] rfl (by simp [cat]) rfl (by simp) hl (by simp <;> omega))
        clear h5 CL rc
        go_wp2_with fail
        refine CT.out.mono ?_
        rintro e w6 ⟨rfl, h6⟩
        have P6 := Lib.hid h6
        clear h6 CT
        go_wp2_with fail
        go_end0
        exact (P6.out.cast (by rw [← HX2.out]; simp)).doneA hB
end Pg
end Go.Proofs.YtiabkkdeonepgaaGreatDoor
