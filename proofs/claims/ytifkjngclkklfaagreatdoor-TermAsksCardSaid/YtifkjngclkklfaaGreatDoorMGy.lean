/- Contracts: a type's text, written: the whole. -/
import Derived.Test.YtifkjngclkklfaaGreatDoorMGx
import Derived.Test.YtifkjngclkklfaaGreatDoorMGp
import Derived.Test.YtifkjngclkklfaaGreatDoorMGr
namespace Go.Proofs.YtifkjngclkklfaaGreatDoor
open Go.RowKit Go.Op
namespace Tm

set_option maxHeartbeats 8000000 in
set_option maxRecDepth 100000 in
theorem typed0 (B b : Nat) (bs : List Value) (w : World) (An : Option Addr) (cn : Nat) (A : Option Addr) (c : Nat) (hp : Prn B b bs w) (hB : B ≤ w.heap.size) (hl : bs.length + 3 ≤ lim) :
    Calls Tryz.prog 46 #[.pointer (some ⟨b, 0, none⟩), .agg #[.int .i64 0, .slice An 0 cn, .slice A 0 c]] w (Wrt B b bs ([100, 121, 110]) w) := by
  have hbl := hp.lt
  have b1 := bel1 w (.cells #[.pointer (some ⟨b, 0, none⟩)] 82)
  have b2 := bel1 (w.alloc (.cells #[.pointer (some ⟨b, 0, none⟩)] 82)) (.cells (tarr 0 An 0 cn A 0 c) 25)
  have b12 := b1.trans (b2.mono b1.size)
  have R1 := Lib.hid ((RowB.new w 82 #[.pointer (some ⟨b, 0, none⟩)]).alloc (.cells (tarr 0 An 0 cn A 0 c) 25))
  have R2 : Hid (RowB ((w.alloc (.cells #[.pointer (some ⟨b, 0, none⟩)] 82)).alloc (.cells (tarr 0 An 0 cn A 0 c) 25)) (w.heap.size + 1) 25 (tarr 0 An 0 cn A 0 c)) := by
    have := RowB.new (w.alloc (.cells #[.pointer (some ⟨b, 0, none⟩)] 82)) 25 (tarr 0 An 0 cn A 0 c)
    have h2 : (w.alloc (.cells #[.pointer (some ⟨b, 0, none⟩)] 82)).heap.size = w.heap.size + 1 := by simp
    rw [h2] at this
    exact this
  obtain ⟨W, hW⟩ : ∃ W, W = (w.alloc (.cells #[.pointer (some ⟨b, 0, none⟩)] 82)).alloc (.cells (tarr 0 An 0 cn A 0 c) 25) := ⟨_, rfl⟩
  rw [← hW] at R1 R2 b12
  have HB12 := Lib.hid b12
  have P0 := Lib.hid ((Pw.start hp hB).other b12)
  have n1 : w.heap.size ≠ b := by omega
  have n2 : w.heap.size + 1 ≠ b := by omega
  have r1 := R1.out.cell
  have r2 := R2.out.cell
  have C1 := Lib.hid (write_w P0.out.p ⟨#[100, 121, 110]⟩ [100, 121, 110] rfl (by rw [List.length_append, Lib.byteCells_length]; simp only [List.length_cons, List.length_nil]; omega) P0.out.size.1)
  clear b1 b2 b12 hp 
  go_enter Tryz.func46, Tryz.ntmps46
  go_wp2_with fail
  rw [← hW]
  refine C1.out.mono ?_
  rintro e w1 ⟨rfl, hw1⟩
  have P1 := Lib.hid (P0.out.step hw1).2
  clear hw1 C1 r1 r2
  go_wp2_with fail
  go_end0
  exact (P1.out.cast (by simp)).done

set_option maxHeartbeats 8000000 in
set_option maxRecDepth 100000 in
theorem typed1 (B b : Nat) (bs : List Value) (w : World) (An : Option Addr) (cn : Nat) (A : Option Addr) (c : Nat) (hp : Prn B b bs w) (hB : B ≤ w.heap.size) (hl : bs.length + 3 ≤ lim) :
    Calls Tryz.prog 46 #[.pointer (some ⟨b, 0, none⟩), .agg #[.int .i64 1, .slice An 0 cn, .slice A 0 c]] w (Wrt B b bs ([105, 110, 116]) w) := by
  have hbl := hp.lt
  have b1 := bel1 w (.cells #[.pointer (some ⟨b, 0, none⟩)] 82)
  have b2 := bel1 (w.alloc (.cells #[.pointer (some ⟨b, 0, none⟩)] 82)) (.cells (tarr 1 An 0 cn A 0 c) 25)
  have b12 := b1.trans (b2.mono b1.size)
  have R1 := Lib.hid ((RowB.new w 82 #[.pointer (some ⟨b, 0, none⟩)]).alloc (.cells (tarr 1 An 0 cn A 0 c) 25))
  have R2 : Hid (RowB ((w.alloc (.cells #[.pointer (some ⟨b, 0, none⟩)] 82)).alloc (.cells (tarr 1 An 0 cn A 0 c) 25)) (w.heap.size + 1) 25 (tarr 1 An 0 cn A 0 c)) := by
    have := RowB.new (w.alloc (.cells #[.pointer (some ⟨b, 0, none⟩)] 82)) 25 (tarr 1 An 0 cn A 0 c)
    have h2 : (w.alloc (.cells #[.pointer (some ⟨b, 0, none⟩)] 82)).heap.size = w.heap.size + 1 := by simp
    rw [h2] at this
    exact this
  obtain ⟨W, hW⟩ : ∃ W, W = (w.alloc (.cells #[.pointer (some ⟨b, 0, none⟩)] 82)).alloc (.cells (tarr 1 An 0 cn A 0 c) 25) := ⟨_, rfl⟩
  rw [← hW] at R1 R2 b12
  have HB12 := Lib.hid b12
  have P0 := Lib.hid ((Pw.start hp hB).other b12)
  have n1 : w.heap.size ≠ b := by omega
  have n2 : w.heap.size + 1 ≠ b := by omega
  have r1 := R1.out.cell
  have r2 := R2.out.cell
  have C1 := Lib.hid (write_w P0.out.p ⟨#[105, 110, 116]⟩ [105, 110, 116] rfl (by rw [List.length_append, Lib.byteCells_length]; simp only [List.length_cons, List.length_nil]; omega) P0.out.size.1)
  clear b1 b2 b12 hp 
  go_enter Tryz.func46, Tryz.ntmps46
  go_wp2_with fail
  rw [← hW]
  refine C1.out.mono ?_
  rintro e w1 ⟨rfl, hw1⟩
  have P1 := Lib.hid (P0.out.step hw1).2
  clear hw1 C1 r1 r2
  go_wp2_with fail
  go_end0
  exact (P1.out.cast (by simp)).done

set_option maxHeartbeats 8000000 in
set_option maxRecDepth 100000 in
theorem typed2 (B b : Nat) (bs : List Value) (w : World) (An : Option Addr) (cn : Nat) (A : Option Addr) (c : Nat) (hp : Prn B b bs w) (hB : B ≤ w.heap.size) (hl : bs.length + 3 ≤ lim) :
    Calls Tryz.prog 46 #[.pointer (some ⟨b, 0, none⟩), .agg #[.int .i64 2, .slice An 0 cn, .slice A 0 c]] w (Wrt B b bs ([115, 116, 114]) w) := by
  have hbl := hp.lt
  have b1 := bel1 w (.cells #[.pointer (some ⟨b, 0, none⟩)] 82)
  have b2 := bel1 (w.alloc (.cells #[.pointer (some ⟨b, 0, none⟩)] 82)) (.cells (tarr 2 An 0 cn A 0 c) 25)
  have b12 := b1.trans (b2.mono b1.size)
  have R1 := Lib.hid ((RowB.new w 82 #[.pointer (some ⟨b, 0, none⟩)]).alloc (.cells (tarr 2 An 0 cn A 0 c) 25))
  have R2 : Hid (RowB ((w.alloc (.cells #[.pointer (some ⟨b, 0, none⟩)] 82)).alloc (.cells (tarr 2 An 0 cn A 0 c) 25)) (w.heap.size + 1) 25 (tarr 2 An 0 cn A 0 c)) := by
    have := RowB.new (w.alloc (.cells #[.pointer (some ⟨b, 0, none⟩)] 82)) 25 (tarr 2 An 0 cn A 0 c)
    have h2 : (w.alloc (.cells #[.pointer (some ⟨b, 0, none⟩)] 82)).heap.size = w.heap.size + 1 := by simp
    rw [h2] at this
    exact this
  obtain ⟨W, hW⟩ : ∃ W, W = (w.alloc (.cells #[.pointer (some ⟨b, 0, none⟩)] 82)).alloc (.cells (tarr 2 An 0 cn A 0 c) 25) := ⟨_, rfl⟩
  rw [← hW] at R1 R2 b12
  have HB12 := Lib.hid b12
  have P0 := Lib.hid ((Pw.start hp hB).other b12)
  have n1 : w.heap.size ≠ b := by omega
  have n2 : w.heap.size + 1 ≠ b := by omega
  have r1 := R1.out.cell
  have r2 := R2.out.cell
  have C1 := Lib.hid (write_w P0.out.p ⟨#[115, 116, 114]⟩ [115, 116, 114] rfl (by rw [List.length_append, Lib.byteCells_length]; simp only [List.length_cons, List.length_nil]; omega) P0.out.size.1)
  clear b1 b2 b12 hp 
  go_enter Tryz.func46, Tryz.ntmps46
  go_wp2_with fail
  rw [← hW]
  refine C1.out.mono ?_
  rintro e w1 ⟨rfl, hw1⟩
  have P1 := Lib.hid (P0.out.step hw1).2
  clear hw1 C1 r1 r2
  go_wp2_with fail
  go_end0
  exact (P1.out.cast (by simp)).done

set_option maxHeartbeats 8000000 in
set_option maxRecDepth 100000 in
theorem typed3 (ns : List ByteArray) (ps : List Ty) (B b : Nat) (bs : List Value) (w : World) (An : Option Addr) (cn : Nat) (A : Option Addr) (c : Nat) (hp : Prn B b bs w) (hB : B ≤ w.heap.size) (hN : NV w (fun g => g < B) ns An cn) (hT : TV w (fun g => g < B) ps A c) (hnl : ns.length = ps.length) (hl1 : ps.length ≤ 1000001) (IH : TextIH ps) (hl : bs.length + (2 + (joinB (recB ns (textL ps))).length) ≤ lim) :
    Calls Tryz.prog 46 #[.pointer (some ⟨b, 0, none⟩), .agg #[.int .i64 3, .slice An ns.length cn, .slice A ps.length c]] w (Wrt B b bs ([123] ++ joinB (recB ns (textL ps)) ++ [125]) w) := by
  have hbl := hp.lt
  have b1 := bel1 w (.cells #[.pointer (some ⟨b, 0, none⟩)] 82)
  have b2 := bel1 (w.alloc (.cells #[.pointer (some ⟨b, 0, none⟩)] 82)) (.cells (tarr 3 An ns.length cn A ps.length c) 25)
  have b12 := b1.trans (b2.mono b1.size)
  have R1 := Lib.hid ((RowB.new w 82 #[.pointer (some ⟨b, 0, none⟩)]).alloc (.cells (tarr 3 An ns.length cn A ps.length c) 25))
  have R2 : Hid (RowB ((w.alloc (.cells #[.pointer (some ⟨b, 0, none⟩)] 82)).alloc (.cells (tarr 3 An ns.length cn A ps.length c) 25)) (w.heap.size + 1) 25 (tarr 3 An ns.length cn A ps.length c)) := by
    have := RowB.new (w.alloc (.cells #[.pointer (some ⟨b, 0, none⟩)] 82)) 25 (tarr 3 An ns.length cn A ps.length c)
    have h2 : (w.alloc (.cells #[.pointer (some ⟨b, 0, none⟩)] 82)).heap.size = w.heap.size + 1 := by simp
    rw [h2] at this
    exact this
  obtain ⟨W, hW⟩ : ∃ W, W = (w.alloc (.cells #[.pointer (some ⟨b, 0, none⟩)] 82)).alloc (.cells (tarr 3 An ns.length cn A ps.length c) 25) := ⟨_, rfl⟩
  rw [← hW] at R1 R2 b12
  have HB12 := Lib.hid b12
  have P0 := Lib.hid ((Pw.start hp hB).other b12)
  have n1 : w.heap.size ≠ b := by omega
  have n2 : w.heap.size + 1 ≠ b := by omega
  have r1 := R1.out.cell
  have r2 := R2.out.cell
  have HN := Lib.hid (P0.out.nv hN)
  have HT := Lib.hid (P0.out.tv hT)
  have HI := Lib.hid IH
  have HL := Lib.hid hnl
  obtain ⟨m, hm⟩ : ∃ m, m = ns.length := ⟨_, rfl⟩
  obtain ⟨n, hn⟩ : ∃ n, n = ps.length := ⟨_, rfl⟩
  have HM : Hid (m = ns.length ∧ n = ps.length) := ⟨hm, hn⟩
  rw [← hm] at r2 R2 hW ⊢
  rw [← hn] at r2 R2 hW hl1 ⊢
  have C1 := Lib.hid (write_w P0.out.p ⟨#[123]⟩ [123] rfl (by rw [List.length_append, Lib.byteCells_length]; simp only [List.length_cons, List.length_nil]; omega) P0.out.size.1)
  clear b1 b2 b12 hp hN hT IH hnl hm hn
  go_enter Tryz.func46, Tryz.ntmps46
  go_wp2_with fail
  rw [← hW]
  refine C1.out.mono ?_
  rintro e w1 ⟨rfl, hw1⟩
  have P1 := Lib.hid (P0.out.step hw1).2
  have T1 := Lib.hid (hw1.row R1.out n1 (by decide))
  have T2 := Lib.hid (hw1.row R2.out n2 (by decide))
  have HN1 : Hid (NV w1 (fun g => g < B) ns An cn) := HN.out.keep hw1.2.2.1.size fun g hg _ => ⟨hw1.2.2.1.block g hg, hg⟩
  have HT1 : Hid (TV w1 (fun g => g < B) ps A c) := HT.out.keep hw1.2.2.1.size fun g hg _ => ⟨hw1.2.2.1.block g hg, hg⟩
  have t1 := T1.out.cell
  have t2 := T2.out.cell
  have HAV : AheadV B b (bs ++ Lib.byteCells [123]) w1 ps.length (fun i => (ns.getD i ⟨#[]⟩).data.toList ++ [58, 32]) (.func (.func 69) #[] #[.pointer (some ⟨w.heap.size, 0, none⟩), .pointer (some ⟨w.heap.size + 1, 0, none⟩)]) := by
    refine ⟨69, #[.pointer (some ⟨w.heap.size, 0, none⟩), .pointer (some ⟨w.heap.size + 1, 0, none⟩)], rfl, fun _ _ => rfl, fun i hi X w' hX hlen => ?_⟩
    dsimp only at hlen ⊢
    have hi' : i < ns.length := by rw [HL.out]; exact hi
    have he : ns[i]? = some (ns.getD i ⟨#[]⟩) := by simp [List.getElem?_eq_getElem hi']
    exact ahead1_any B b _ w' w.heap.size (w.heap.size + 1) 3 ns An cn A n c i _ hX.p hX.size.1 (hX.row T1.out n1 (by decide)) (by have := hX.row T2.out n2 (by decide); rw [HM.out.1] at this; exact this) n1 n2 (hX.nv HN1.out) he (by rw [List.length_append, Lib.byteCells_length]; omega) (by rw [HL.out, ← HM.out.2]; exact hl1)
  have HPC : (recB ns (textL ps)).length = ps.length ∧ ∀ i p, ps[i]? = some p → (recB ns (textL ps))[i]? = some (((ns.getD i ⟨#[]⟩).data.toList ++ [58, 32]) ++ p.text) := by
    refine ⟨by rw [recB_len (by rw [textL_map, List.length_map]; exact HL.out), textL_map, List.length_map], fun i p hp => ?_⟩
    have hi := (List.getElem?_eq_some_iff.1 hp).1
    have hi' : i < ns.length := by rw [HL.out]; exact hi
    exact recB_get (by simp [List.getElem?_eq_getElem hi']) (by rw [textL_map, List.getElem?_map, hp]; rfl)
  have C2 := wlist_any B b (bs ++ Lib.byteCells [123]) ps (fun i => (ns.getD i ⟨#[]⟩).data.toList ++ [58, 32]) (recB ns (textL ps)) A c _ w1 P1.out.p P1.out.size.1 HT1.out (by rw [← HM.out.2]; exact hl1) HI.out HAV HPC (by rw [List.length_append, Lib.byteCells_length]; simp only [List.length_cons, List.length_nil]; omega)
  rw [← HM.out.2] at C2
  have C3 := Lib.hid C2
  clear hw1 C1 r1 r2 HAV HPC C2
  go_wp2_with fail
  refine C3.out.mono ?_
  rintro e w2 hw2
  obtain ⟨rfl, h2⟩ := P1.out.step (show Wrt B b (bs ++ Lib.byteCells ([] ++ [123])) (joinB (recB ns (textL ps))) w1 e w2 from hw2)
  have P2 := Lib.hid h2
  have T3 := Lib.hid (hw2.row T1.out n1 (by decide))
  have t3 := T3.out.cell
  have C4 := Lib.hid (write_w P2.out.p ⟨#[125]⟩ [125] rfl (by rw [List.length_append, Lib.byteCells_length]; simp only [List.length_append, List.length_cons, List.length_nil]; omega) P2.out.size.1)
  clear hw2 h2 C3 t1 t2
  go_wp2_with fail
  refine C4.out.mono ?_
  rintro e w3 ⟨rfl, hw3⟩
  have P3 := Lib.hid (P2.out.step hw3).2
  clear hw3 C4 t3
  go_wp2_with fail
  go_end0
  exact (P3.out.cast (by simp)).done
end Tm
end Go.Proofs.YtifkjngclkklfaaGreatDoor
/- Contracts: a type's text, written: functions; the whole. -/
namespace Go.Proofs.YtifkjngclkklfaaGreatDoor
open Go.RowKit Go.Op
namespace Tm
theorem last_textL : ∀ l : List Ty, 0 < l.length → (textL l).getLast?.getD [] = (lastT l).text
  | [t], _ => rfl
  | _ :: u :: l, _ => by
    have := last_textL (u :: l) (by simp)
    rw [textL, textL, List.getLast?_cons_cons, ← textL, this, lastT]

set_option maxHeartbeats 8000000 in
set_option maxRecDepth 100000 in
theorem typed4 (ps : List Ty) (B b : Nat) (bs : List Value) (w : World) (An : Option Addr) (cn : Nat) (A : Option Addr) (c : Nat) (hp : Prn B b bs w) (hB : B ≤ w.heap.size) (hT : TV w (fun g => g < B) ps A c) (h0 : 0 < ps.length) (hl1 : ps.length ≤ 1000001) (IH : TextIH ps) (hl : bs.length + (6 + (joinB ((textL ps).take (ps.length - 1))).length + (lastT ps).text.length) ≤ lim) :
    Calls Tryz.prog 46 #[.pointer (some ⟨b, 0, none⟩), .agg #[.int .i64 4, .slice An 0 cn, .slice A ps.length c]] w (Wrt B b bs ([102, 110, 40] ++ joinB ((textL ps).take (ps.length - 1)) ++ [41, 58, 32] ++ (lastT ps).text) w) := by
  have hbl := hp.lt
  have b1 := bel1 w (.cells #[.pointer (some ⟨b, 0, none⟩)] 82)
  have b2 := bel1 (w.alloc (.cells #[.pointer (some ⟨b, 0, none⟩)] 82)) (.cells (tarr 4 An 0 cn A ps.length c) 25)
  have b12 := b1.trans (b2.mono b1.size)
  have R1 := Lib.hid ((RowB.new w 82 #[.pointer (some ⟨b, 0, none⟩)]).alloc (.cells (tarr 4 An 0 cn A ps.length c) 25))
  have R2 : Hid (RowB ((w.alloc (.cells #[.pointer (some ⟨b, 0, none⟩)] 82)).alloc (.cells (tarr 4 An 0 cn A ps.length c) 25)) (w.heap.size + 1) 25 (tarr 4 An 0 cn A ps.length c)) := by
    have := RowB.new (w.alloc (.cells #[.pointer (some ⟨b, 0, none⟩)] 82)) 25 (tarr 4 An 0 cn A ps.length c)
    have h2 : (w.alloc (.cells #[.pointer (some ⟨b, 0, none⟩)] 82)).heap.size = w.heap.size + 1 := by simp
    rw [h2] at this
    exact this
  obtain ⟨W, hW⟩ : ∃ W, W = (w.alloc (.cells #[.pointer (some ⟨b, 0, none⟩)] 82)).alloc (.cells (tarr 4 An 0 cn A ps.length c) 25) := ⟨_, rfl⟩
  rw [← hW] at R1 R2 b12
  have HB12 := Lib.hid b12
  have P0 := Lib.hid ((Pw.start hp hB).other b12)
  have n1 : w.heap.size ≠ b := by omega
  have n2 : w.heap.size + 1 ≠ b := by omega
  have r1 := R1.out.cell
  have r2 := R2.out.cell
  have HT := Lib.hid (P0.out.tv hT)
  have HI := Lib.hid IH
  obtain ⟨m, hm⟩ : ∃ m, m = ps.length - 1 := ⟨_, rfl⟩
  obtain ⟨n, hn⟩ : ∃ n, n = ps.length := ⟨_, rfl⟩
  have hcap := hT.1
  have HM : Hid (m = ps.length - 1 ∧ n = ps.length ∧ 0 < ps.length) := ⟨hm, hn, h0⟩
  have hnm : n = m + 1 := by omega
  obtain ⟨tl, htl⟩ : ∃ t, t = lastT ps := ⟨_, rfl⟩
  have hlast : ps[m]? = some tl := by rw [htl, lastT_get h0, List.getElem?_eq_getElem (by omega)]; simp [hm]
  obtain ⟨g, oo, An2, cn2, A2, c2, hA, hPg, hg, hti, z0, z1, z2⟩ := (P0.out.tv hT).nth hlast
  have HTI := Lib.hid hti
  have HMEM := Lib.hid (List.mem_of_getElem? hlast)
  rw [← hm, ← htl] at hl ⊢
  rw [← hn] at hcap r2 R2 hW hl1 ⊢
  have q1 : IntKind.i64.wrap ((n : Int) - 1) = (m : Int) := by rw [IntKind.wrap_i64]; omega
  have q2 : ¬ (m : Int) < 0 := by omega
  have q3 : (m : Int) < (n : Int) := by omega
  have q4 : (m : Int) ≤ (c : Int) := by omega
  have q5 : (0 : Int) ≤ (m : Int) := by omega
  have hcap2 : Hid (n ≤ c ∧ m ≤ 1000001) := ⟨hcap, by omega⟩
  subst hA
  obtain ⟨kt, nt, pt⟩ := tl
  simp only [kind_mk, names_mk, parts_mk] at z0 z1 z2
  have C1 := Lib.hid (write_w P0.out.p ⟨#[102, 110, 40]⟩ [102, 110, 40] rfl (by rw [List.length_append, Lib.byteCells_length]; simp only [List.length_cons, List.length_nil]; omega) P0.out.size.1)
  clear b1 b2 b12 hp hT IH hm hn htl hlast hti hcap h0 hnm
  go_enter Tryz.func46, Tryz.ntmps46
  go_wp2_with fail
  rw [← hW]
  refine C1.out.mono ?_
  rintro e w1 ⟨rfl, hw1⟩
  have P1 := Lib.hid (P0.out.step hw1).2
  have T1 := Lib.hid (hw1.row R1.out n1 (by decide))
  have T2 := Lib.hid (hw1.row R2.out n2 (by decide))
  have HTI1 := Lib.hid (hw1.ti HTI.out)
  have HT1 : Hid (TV w1 (fun g => g < B) ps (some ⟨g, oo, none⟩) c) := HT.out.keep hw1.2.2.1.size fun g hg _ => ⟨hw1.2.2.1.block g hg, hg⟩
  have az0 := (hw1.2.2.1.cell (p := ⟨g, oo + m * 3, none⟩) hPg).trans z0
  have az1 := (hw1.2.2.1.cell (p := ⟨g, oo + m * 3 + 1, none⟩) hPg).trans z1
  have az2 := (hw1.2.2.1.cell (p := ⟨g, oo + m * 3 + 2, none⟩) hPg).trans z2
  clear hw1 C1 r1 r2 z0 z1 z2
  have t1 := T1.out.cell
  have t2 := T2.out.cell
  have D1 : Below w1.heap.size w1 w1.drew := Below.drew (Below.refl _ _)
  have P1d := Lib.hid (P1.out.other D1)
  have HTd := Lib.hid (HT1.out.below D1)
  have HAV : AheadV B b (bs ++ Lib.byteCells ([] ++ [102, 110, 40])) w1.drew (ps.take m).length (fun _ => []) (.func (.func 70) #[] #[]) :=
    ⟨70, #[], rfl, fun _ _ => rfl, fun i hi X w' hX hlen => ahead0_any B b _ _ w' hX.p⟩
  have C2 := wlist_any B b (bs ++ Lib.byteCells ([] ++ [102, 110, 40])) (ps.take m) (fun _ => []) ((textL ps).take m) (some ⟨g, oo, none⟩) c _ w1.drew P1d.out.p P1d.out.size.1 (HTd.out.take m) (by rw [List.length_take]; have := hcap2.out.2; omega) (fun p hp => HI.out p (List.mem_of_mem_take hp)) HAV
    ⟨by simp [textL_map], fun i p hp => by
      rw [List.getElem?_take] at hp ⊢
      split at hp
      · rename_i hlt
        rw [if_pos hlt, textL_map, List.getElem?_map, hp]
        rfl
      · cases hp⟩ (by rw [List.length_append, Lib.byteCells_length]; simp only [List.length_append, List.length_cons, List.length_nil]; omega)
  rw [List.length_take, Nat.min_eq_left (by have := HM.out; omega)] at C2
  have C3 := Lib.hid C2
  clear C2 HAV
  go_upto_region 15 with fail
  refine wp_region_G (S := SG (fun w' => RowB w' w.heap.size 82 #[.pointer (some ⟨b, 0, none⟩)] ∧ RowB w' (w.heap.size + 1) 25 (tarr 4 An 0 cn (some ⟨g, oo, none⟩) n c) ∧ w'.cell? ⟨g, oo + m * 3, none⟩ = some (.int .i64 kt) ∧ w'.cell? ⟨g, oo + m * 3 + 1, none⟩ = some (.slice An2 nt.length cn2) ∧ w'.cell? ⟨g, oo + m * 3 + 2, none⟩ = some (.slice A2 pt.length c2)) 99 (fun _ => True) 99 (fun _ => True)) (by kernel_rfl) ⟨⟨T1.out, T2.out, az0, az1, az2⟩, fun _ => trivial, fun _ => trivial⟩ (fun hS => ?_)
  refine wpG_take0 (i := 0) (v := ?v1) rfl (by kernel_rfl) (by kernel_rfl) (by kernel_rfl) (by decide) (by decide) (fun _ _ _ h => h) hS (Or.inl ⟨by rfl, ?hy1⟩) ?rest1
  case hy1 => (intro w' hw; obtain ⟨s1, s2, u2, u3, u4⟩ := hw; have u0 := s1.cell; have u1 := s2.cell; go_simp; try with_reducible rfl)
  replace hS := SG.set (i := 0) (by decide) (by decide) hS
  try simp only [Act.put, List.setIfInBounds_toArray, List.set_cons_zero, List.set_cons_succ]
  refine wpG_take0 (i := 1) (v := ?v2) rfl (by kernel_rfl) (by kernel_rfl) (by kernel_rfl) (by decide) (by decide) (fun _ _ _ h => h) hS (Or.inl ⟨by rfl, ?hy2⟩) ?rest2
  case hy2 => (intro w' hw; obtain ⟨s1, s2, u2, u3, u4⟩ := hw; have u0 := s1.cell; have u1 := s2.cell; go_simp; try with_reducible rfl)
  replace hS := SG.set (i := 1) (by decide) (by decide) hS
  try simp only [Act.put, List.setIfInBounds_toArray, List.set_cons_zero, List.set_cons_succ]
  refine wpG_take0 (i := 2) (v := ?v3) rfl (by kernel_rfl) (by kernel_rfl) (by kernel_rfl) (by decide) (by decide) (fun _ _ _ h => h) hS (Or.inl ⟨by rfl, ?hy3⟩) ?rest3
  case hy3 => (intro w' hw; obtain ⟨s1, s2, u2, u3, u4⟩ := hw; have u0 := s1.cell; have u1 := s2.cell; go_simp; try with_reducible rfl)
  replace hS := SG.set (i := 2) (by decide) (by decide) hS
  try simp only [Act.put, List.setIfInBounds_toArray, List.set_cons_zero, List.set_cons_succ]
  refine wpG_take0 (i := 3) (v := ?v4) rfl (by kernel_rfl) (by kernel_rfl) (by kernel_rfl) (by decide) (by decide) (fun _ _ _ h => h) hS (Or.inl ⟨by rfl, ?hy4⟩) ?rest4
  case hy4 => (intro w' hw; obtain ⟨s1, s2, u2, u3, u4⟩ := hw; have u0 := s1.cell; have u1 := s2.cell; go_simp; try with_reducible rfl)
  replace hS := SG.set (i := 3) (by decide) (by decide) hS
  try simp only [Act.put, List.setIfInBounds_toArray, List.set_cons_zero, List.set_cons_succ]
  refine wpG_take0 (i := 4) (v := ?v5) rfl (by kernel_rfl) (by kernel_rfl) (by kernel_rfl) (by decide) (by decide) (fun _ _ _ h => h) hS (Or.inl ⟨by rfl, ?hy5⟩) ?rest5
  case hy5 => (intro w' hw; obtain ⟨s1, s2, u2, u3, u4⟩ := hw; have u0 := s1.cell; have u1 := s2.cell; go_simp; try with_reducible rfl)
  replace hS := SG.set (i := 4) (by decide) (by decide) hS
  try simp only [Act.put, List.setIfInBounds_toArray, List.set_cons_zero, List.set_cons_succ]
  refine wpG_ready (rs := [5]) (by kernel_rfl) (by simp) ?_
  refine RG.cons rfl rfl (fun K hK => ?_) RG.nil
  go_simp
  refine C3.out.mono ?_
  rintro e w2 hw2
  obtain ⟨rfl, h2⟩ := P1d.out.step hw2
  go_wp2_with fail
  have T3 := hw2.row (show RowB w1.drew w.heap.size 82 _ from T1.out) n1 (by decide)
  have T4 := hw2.row (show RowB w1.drew (w.heap.size + 1) 25 _ from T2.out) n2 (by decide)
  have bz0 := (hw2.2.2.1.cell (p := ⟨g, oo + m * 3, none⟩) hPg).trans az0
  have bz1 := (hw2.2.2.1.cell (p := ⟨g, oo + m * 3 + 1, none⟩) hPg).trans az1
  have bz2 := (hw2.2.2.1.cell (p := ⟨g, oo + m * 3 + 2, none⟩) hPg).trans az2
  refine hK.out _ _ ⟨⟨T3, T4, bz0, bz1, bz2⟩, fun _ => trivial, fun _ => trivial⟩ (fun hS => ?_)
  clear hK K
  try simp only [Act.put, List.setIfInBounds_toArray, List.set_cons_zero, List.set_cons_succ]
  refine wpG_done (by kernel_rfl) ?_ _
  have P2 := Lib.hid h2
  have HX3 := Lib.hid T3
  have HX4 := Lib.hid T4
  have HTI2 := Lib.hid (hw2.ti (HTI1.out.below D1))
  have C4 := Lib.hid (write_w P2.out.p ⟨#[41, 58, 32]⟩ [41, 58, 32] rfl (by rw [List.length_append, Lib.byteCells_length]; simp only [List.length_append, List.length_cons, List.length_nil]; omega) P2.out.size.1)
  have t3 := T3.cell
  clear hS hw2 h2 C3 t1 t2 T1 T2 T3 T4 az0 az1 az2 D1 P1d HTd
  go_wp2_with fail
  refine C4.out.mono ?_
  rintro e w3 ⟨rfl, hw3⟩
  have P3 := Lib.hid (P2.out.step hw3).2
  have T5 := Lib.hid (hw3.row HX3.out n1 (by decide))
  have T6 := Lib.hid (hw3.row HX4.out n2 (by decide))
  have HTI3 := Lib.hid (hw3.ti HTI2.out)
  have dz0 := (hw3.2.2.1.cell (p := ⟨g, oo + m * 3, none⟩) hPg).trans bz0
  have dz1 := (hw3.2.2.1.cell (p := ⟨g, oo + m * 3 + 1, none⟩) hPg).trans bz1
  have dz2 := (hw3.2.2.1.cell (p := ⟨g, oo + m * 3 + 2, none⟩) hPg).trans bz2
  clear hw3 C4 t3 bz0 bz1 bz2
  have D3 : Below w3.heap.size w3 w3.drew := Below.drew (Below.refl _ _)
  have P3d := Lib.hid (P3.out.other D3)
  have C5 := Lib.hid (HI.out _ HMEM.out B b _ w3.drew An2 cn2 A2 c2 P3d.out.p P3d.out.size.1 (HTI3.out.below D3) (by rw [List.length_append, Lib.byteCells_length]; simp only [List.length_append, List.length_cons, List.length_nil]; omega))
  try simp only [tv, kind_mk, names_mk, parts_mk] at C5
  go_upto_region 17 with fail
  refine wp_region_G (S := SG (fun w' => RowB w' w.heap.size 82 #[.pointer (some ⟨b, 0, none⟩)] ∧ RowB w' (w.heap.size + 1) 25 (tarr 4 An 0 cn (some ⟨g, oo, none⟩) n c) ∧ w'.cell? ⟨g, oo + m * 3, none⟩ = some (.int .i64 kt) ∧ w'.cell? ⟨g, oo + m * 3 + 1, none⟩ = some (.slice An2 nt.length cn2) ∧ w'.cell? ⟨g, oo + m * 3 + 2, none⟩ = some (.slice A2 pt.length c2)) 99 (fun _ => True) 99 (fun _ => True)) (by kernel_rfl) ⟨⟨T5.out, T6.out, dz0, dz1, dz2⟩, fun _ => trivial, fun _ => trivial⟩ (fun hS => ?_)
  refine wpG_take0 (i := 0) (v := ?v6) rfl (by kernel_rfl) (by kernel_rfl) (by kernel_rfl) (by decide) (by decide) (fun _ _ _ h => h) hS (Or.inl ⟨by rfl, ?hy6⟩) ?rest6
  case hy6 => (intro w' hw; obtain ⟨s1, s2, u2, u3, u4⟩ := hw; have u0 := s1.cell; have u1 := s2.cell; go_simp; try with_reducible rfl)
  replace hS := SG.set (i := 0) (by decide) (by decide) hS
  try simp only [Act.put, List.setIfInBounds_toArray, List.set_cons_zero, List.set_cons_succ]
  refine wpG_take0 (i := 1) (v := ?v7) rfl (by kernel_rfl) (by kernel_rfl) (by kernel_rfl) (by decide) (by decide) (fun _ _ _ h => h) hS (Or.inl ⟨by rfl, ?hy7⟩) ?rest7
  case hy7 => (intro w' hw; obtain ⟨s1, s2, u2, u3, u4⟩ := hw; have u0 := s1.cell; have u1 := s2.cell; go_simp; try with_reducible rfl)
  replace hS := SG.set (i := 1) (by decide) (by decide) hS
  try simp only [Act.put, List.setIfInBounds_toArray, List.set_cons_zero, List.set_cons_succ]
  refine wpG_take0 (i := 2) (v := ?v8) rfl (by kernel_rfl) (by kernel_rfl) (by kernel_rfl) (by decide) (by decide) (fun _ _ _ h => h) hS (Or.inl ⟨by rfl, ?hy8⟩) ?rest8
  case hy8 => (intro w' hw; obtain ⟨s1, s2, u2, u3, u4⟩ := hw; have u0 := s1.cell; have u1 := s2.cell; go_simp; try with_reducible rfl)
  replace hS := SG.set (i := 2) (by decide) (by decide) hS
  try simp only [Act.put, List.setIfInBounds_toArray, List.set_cons_zero, List.set_cons_succ]
  refine wpG_take0 (i := 3) (v := ?v9) rfl (by kernel_rfl) (by kernel_rfl) (by kernel_rfl) (by decide) (by decide) (fun _ _ _ h => h) hS (Or.inl ⟨by rfl, ?hy9⟩) ?rest9
  case hy9 => (intro w' hw; obtain ⟨s1, s2, u2, u3, u4⟩ := hw; have u0 := s1.cell; have u1 := s2.cell; go_simp; try with_reducible rfl)
  replace hS := SG.set (i := 3) (by decide) (by decide) hS
  try simp only [Act.put, List.setIfInBounds_toArray, List.set_cons_zero, List.set_cons_succ]
  refine wpG_take0 (i := 4) (v := ?v10) rfl (by kernel_rfl) (by kernel_rfl) (by kernel_rfl) (by decide) (by decide) (fun _ _ _ h => h) hS (Or.inl ⟨by rfl, ?hy10⟩) ?rest10
  case hy10 => (intro w' hw; obtain ⟨s1, s2, u2, u3, u4⟩ := hw; have u0 := s1.cell; have u1 := s2.cell; go_simp; try with_reducible rfl)
  replace hS := SG.set (i := 4) (by decide) (by decide) hS
  try simp only [Act.put, List.setIfInBounds_toArray, List.set_cons_zero, List.set_cons_succ]
  refine wpG_take0 (i := 5) (v := ?v11) rfl (by kernel_rfl) (by kernel_rfl) (by kernel_rfl) (by decide) (by decide) (fun _ _ _ h => h) hS (Or.inl ⟨by rfl, ?hy11⟩) ?rest11
  case hy11 => (intro w' hw; obtain ⟨s1, s2, u2, u3, u4⟩ := hw; have u0 := s1.cell; have u1 := s2.cell; go_simp; try with_reducible rfl)
  replace hS := SG.set (i := 5) (by decide) (by decide) hS
  try simp only [Act.put, List.setIfInBounds_toArray, List.set_cons_zero, List.set_cons_succ]
  refine wpG_ready (rs := [6]) (by kernel_rfl) (by simp) ?_
  refine RG.cons rfl rfl (fun K hK => ?_) RG.nil
  go_simp
  refine C5.out.mono ?_
  rintro e w4 hw4
  obtain ⟨rfl, h4⟩ := P3d.out.step hw4
  go_wp2_with fail
  have T7 := hw4.row (show RowB w3.drew w.heap.size 82 _ from T5.out) n1 (by decide)
  have T8 := hw4.row (show RowB w3.drew (w.heap.size + 1) 25 _ from T6.out) n2 (by decide)
  have fz0 := (hw4.2.2.1.cell (p := ⟨g, oo + m * 3, none⟩) hPg).trans dz0
  have fz1 := (hw4.2.2.1.cell (p := ⟨g, oo + m * 3 + 1, none⟩) hPg).trans dz1
  have fz2 := (hw4.2.2.1.cell (p := ⟨g, oo + m * 3 + 2, none⟩) hPg).trans dz2
  refine hK.out _ _ ⟨⟨T7, T8, fz0, fz1, fz2⟩, fun _ => trivial, fun _ => trivial⟩ (fun hS => ?_)
  clear hK K
  try simp only [Act.put, List.setIfInBounds_toArray, List.set_cons_zero, List.set_cons_succ]
  refine wpG_done (by kernel_rfl) ?_ _
  have P4 := Lib.hid h4
  clear hS hw4 h4 C5 T5 T6 T7 T8 dz0 dz1 dz2 fz0 fz1 fz2
  go_wp2_with fail
  go_end0
  exact (P4.out.cast (by simp)).done
/-- A type's text is written. -/
theorem typed_any : ∀ p : Ty, p.right = true → p.cnt ≤ 1000001 → ∀ (B b : Nat) (bs : List Value) (w : World) (An : Option Addr) (cn : Nat) (A : Option Addr) (c : Nat), Prn B b bs w → B ≤ w.heap.size → TI w (fun g => g < B) p An cn A c → bs.length + p.text.length ≤ lim →
    Calls Tryz.prog 46 #[.pointer (some ⟨b, 0, none⟩), tv p An cn A c] w (Wrt B b bs p.text w) := by
  refine Ty.ind fun k ns ps ih hr hc B b bs w An cn A c hp hB ht hl => ?_
  have IH : TextIH ps := fun p hp => ih p hp (right_part (t := .mk k ns ps) hr hp) (Nat.le_of_lt (Nat.lt_of_lt_of_le (cnt_part (t := .mk k ns ps) hp) hc))
  have hN := (TI_iff.1 ht).1
  have hT := (TI_iff.1 ht).2
  simp only [names_mk, parts_mk] at hN hT
  have hlen := cnt_len (.mk k ns ps)
  simp only [parts_mk] at hlen
  show Calls Tryz.prog 46 #[.pointer (some ⟨b, 0, none⟩), .agg #[.int .i64 k, .slice An ns.length cn, .slice A ps.length c]] w _
  rcases right_cases hr with ⟨hk, rfl, rfl⟩ | ⟨rfl, hnl, _, _⟩ | ⟨rfl, rfl, h0⟩
  · rcases hk with rfl | rfl | rfl
    · exact typed0 B b bs w An cn A c hp hB (by simpa [Ty.text, plainB] using hl)
    · exact typed1 B b bs w An cn A c hp hB (by simpa [Ty.text, plainB] using hl)
    · exact typed2 B b bs w An cn A c hp hB (by simpa [Ty.text, plainB] using hl)
  · have e : (Ty.mk 3 ns ps).text = [123] ++ joinB (recB ns (textL ps)) ++ [125] := by rw [Ty.text, if_pos rfl]
    rw [e] at hl ⊢
    exact typed3 ns ps B b bs w An cn A c hp hB hN hT hnl (by omega) IH (by simp only [List.length_append, List.length_cons, List.length_nil] at hl; omega)
  · have e : (Ty.mk 4 [] ps).text = [102, 110, 40] ++ joinB ((textL ps).take (ps.length - 1)) ++ [41, 58, 32] ++ (lastT ps).text := by
      rw [Ty.text, if_neg (by decide), if_pos rfl, last_textL ps h0]
    rw [e] at hl ⊢
    exact typed4 ps B b bs w An cn A c hp hB hT h0 (by omega) IH (by simp only [List.length_append, List.length_cons, List.length_nil] at hl; omega)
end Tm
end Go.Proofs.YtifkjngclkklfaaGreatDoor
/- Contracts: Text, by the program. -/
namespace Go.Proofs.YtifkjngclkklfaaGreatDoor
open Go.RowKit Go.Op
namespace Tm
/-- What Text answers: of a type that may not be nothing. -/
def textS (t : Ty) : ByteArray := if t.right then ⟨t.text.toArray⟩ else ⟨#[]⟩
set_option maxHeartbeats 8000000 in
set_option maxRecDepth 100000 in
theorem text_any (t : Ty) (hc : t.cnt ≤ 1000001) (hl : t.text.length ≤ lim) (w : World) (P : Nat → Prop) (An : Option Addr) (cn : Nat) (A : Option Addr) (c : Nat) (ht : TI w P t An cn A c) :
    Calls Tryz.prog 24 #[tv t An cn A c] w fun e w' => e = .returned (.string (textS t)) ∧ Below w.heap.size w w' := by
  have b1 := bel1 w (.cells (tarr t.kind An t.names.length cn A t.parts.length c) 25)
  have R1 := Lib.hid (RowB.new w 25 (tarr t.kind An t.names.length cn A t.parts.length c))
  obtain ⟨w1, h1⟩ : ∃ w1, w1 = w.alloc (.cells (tarr t.kind An t.names.length cn A t.parts.length c) 25) := ⟨_, rfl⟩
  rw [← h1] at b1 R1
  have HB1 := Lib.hid b1
  have HT1 := Lib.hid (ht.below b1)
  have C1 := Lib.hid (pright_any t hc w1 _ An cn A c HT1.out)
  have hr1 := R1.out.cell
  have HTX : Hid (t.cnt ≤ 1000001 ∧ t.text.length ≤ lim) := ⟨hc, hl⟩
  obtain ⟨z, hz⟩ : ∃ z, z = t.right := ⟨_, rfl⟩
  have HZ := Lib.hid hz
  rw [← hz] at C1
  have HTS : Hid (textS t = if z then ⟨t.text.toArray⟩ else ⟨#[]⟩) := by unfold Hid textS; rw [hz]
  generalize textS t = ts at *
  obtain ⟨tx, htx⟩ : ∃ tx, tx = t := ⟨_, rfl⟩
  have HE := Lib.hid htx
  obtain ⟨k, ns, ps⟩ := t
  simp only [tarr, tv, kind_mk, names_mk, parts_mk] at h1 C1 hr1 R1 ⊢
  clear b1 ht hc hl hz htx
  go_enter Tryz.func24, Tryz.ntmps24
  go_wp2_with fail
  rw [← h1]
  refine C1.out.mono ?_
  rintro e w2 ⟨rfl, h2⟩
  have HB2 := Lib.hid (HB1.out.trans (h2.mono HB1.out.size))
  have HT2 := Lib.hid (HT1.out.below h2)
  have R2 := Lib.hid (R1.out.below h2 R1.out.lt)
  have r2 := R2.out.cell
  clear h2 C1 hr1 h1
  cases z with
  | false =>
    clear HT1 HT2
    go_wp2_with fail
    (first | go_ret | go_ret2)
    exact ⟨by rw [HTS.out]; rfl, HB2.out⟩
  | true =>
    have b3 := bel1 w2 (.cells #[.pointer none, .slice none 0 0] 62)
    have W3 := heap_alloc_new w2 (.cells #[.pointer none, .slice none 0 0] 62)
    obtain ⟨w3, h3⟩ : ∃ w3, w3 = w2.alloc (.cells #[.pointer none, .slice none 0 0] 62) := ⟨_, rfl⟩
    have s3 : w2.heap.size ≤ w3.heap.size := by rw [h3]; simp
    rw [← h3] at b3 W3
    have HP : Hid (Prn w2.heap.size w2.heap.size [] w3) := .inl ⟨Nat.le_refl _, .slice none 0 0, W3, World.ownsRow_nil _ _ _ _, by simp [Value.ownBlock]⟩
    have HT3 : Hid (TI w3 (fun g => g < w2.heap.size) (.mk k ns ps) An cn A c) := HT2.out.keep b3.size fun g _ hl => ⟨b3.block g hl, hl⟩
    have R3 := Lib.hid (R2.out.below b3 R2.out.lt)
    have hlt := R2.out.lt
    have hne : w.heap.size ≠ w2.heap.size := by have := R2.out.lt; omega
    have C3 := Lib.hid (typed_any (.mk k ns ps) HZ.out.symm HTX.out.1 w2.heap.size w2.heap.size [] w3 An cn A c HP.out s3 HT3.out (by simpa using HTX.out.2))
    have HB3 := Lib.hid (HB2.out.trans (b3.mono HB2.out.size))
    have r3 := R3.out.cell
    try simp only [tv, kind_mk, names_mk, parts_mk] at C3
    clear b3 W3 HT1 HT2 HT3 r3
    go_wp2_with fail
    rw [← h3]
    refine C3.out.mono ?_
    rintro e w4 ⟨rfl, hp4, hb4, ho4⟩
    have hp5 : Prn w2.heap.size w2.heap.size (Lib.byteCells (Ty.mk k ns ps).text) w4 := by simpa using hp4
    have C4 := Lib.hid (string_w w2.heap.size w2.heap.size _ w4 hp5 (Nat.le_trans s3 hb4.size))
    have HB4 := Lib.hid (HB3.out.trans (hb4.mono (Nat.le_trans HB2.out.size (Nat.le_refl _))))
    have HBS := Lib.hid HB2.out.size
    clear hp4 hp5 hb4 ho4 C3 r2 h3
    go_wp2_with fail
    refine C4.out.mono ?_
    rintro e w5 ⟨rfl, h5⟩
    have HB5 := Lib.hid (HB4.out.trans (h5.mono HBS.out))
    clear h5 C4
    go_wp2_with fail
    (first | go_ret | go_ret2)
    exact ⟨by rw [HTS.out]; rfl, HB5.out⟩
end Tm
end Go.Proofs.YtifkjngclkklfaaGreatDoor
/- Contracts: law09's example. -/
namespace Go.Proofs.YtifkjngclkklfaaGreatDoor
open Go.RowKit Go.Op
namespace Tm
open Ps Pg
def s5 : ByteArray := ⟨#[123, 98, 58, 32, 105, 110, 116, 44, 32, 97, 58, 32, 100, 121, 110, 125]⟩
def k5 : Fo := .cons ⟨33, 1, 4, bB, 1⟩ (.cons ⟨29, 3, 4, e0, 0⟩ .nil .nil) (.cons ⟨33, 5, 8, bA, 5⟩ (.cons ⟨31, 7, 8, e0, 0⟩ .nil .nil) .nil)
def t5 : Ty := .mk 3 [bA, bB] [dyn, tI]
theorem m5 : typeM s5 = .ok ⟨32, 0, 9, e0, 0⟩ k5 := by kernel_rfl
theorem isRec5 : IsRec [bB, bA] [tI, dyn] t5 := ⟨rfl, by kernel_rfl, rfl, fun x p => by
  simp only [t5, names_mk, parts_mk, List.zip_cons_cons, List.zip_nil_left, List.mem_cons, List.not_mem_nil, or_false]
  exact or_comm⟩
theorem n5 (a b : Nat) : node ⟨32, a, b, e0, 0⟩ 2 (tri k5).2.1 (tri k5).2.2 = (0, t5) := by
  have h : (tri k5).2.1 = (0, [bB, bA], [tI, dyn]) := by
    simp [k5, tri, recStep, node, Fo.len, tI]
  unfold node
  rw [if_neg (by simp), if_neg (by simp), if_neg (by simp), if_pos rfl, h]
  unfold recEnd
  rw [if_neg (by simp), if_pos (by decide), mkRec_eq isRec5]
theorem c5 (w : World) (hT : Tabs w) (hE : Errs w) : Calls Tryz.prog 29 #[.string s5] w (ToldQ (0, t5) w) :=
  parse_case s5 (by decide) _ k5 _ m5 (by simp [fok, k5, Fo.len, sz0, szA, szB]) (by simp [noFn, k5]) (n5 0 9) (by decide) (by decide) w hT hE
theorem txt5 : textS t5 = ⟨#[123, 97, 58, 32, 100, 121, 110, 44, 32, 98, 58, 32, 105, 110, 116, 125]⟩ := by kernel_rfl
theorem txl5 : t5.text.length ≤ lim := by
  have : t5.text.length = 16 := by kernel_rfl
  rw [this]; decide
set_option maxHeartbeats 4000000 in
set_option maxRecDepth 100000 in
theorem awake9_gen (S : ByteArray) (T : Ty) (hS : S = s5) (C1 : ∀ w, Tabs w → Errs w → Calls Tryz.prog 29 #[.string S] w (ToldQ (0, T) w))
    (C2 : ∀ (w : World) (P : Nat → Prop) An cn A c, TI w P T An cn A c → Calls Tryz.prog 24 #[tv T An cn A c] w fun e w' => e = .returned (.string ⟨#[123, 97, 58, 32, 100, 121, 110, 44, 32, 98, 58, 32, 105, 110, 116, 125]⟩) ∧ Below w.heap.size w w')
    (w : World) (hT : Tabs w) (hE : Errs w) : Calls Tryz.prog 13 #[] w fun e w' => e = .returned (.bool true) ∧ Below w.heap.size w w' := by
  have D1 := Lib.hid (C1 w hT hE)
  have D2 := Lib.hid C2
  clear C1 C2 hT hE
  go_enter Tryz.func13, Tryz.ntmps13
  simp only [← show s5 = (⟨#[123, 98, 58, 32, 105, 110, 116, 44, 32, 97, 58, 32, 100, 121, 110, 125]⟩ : ByteArray) from rfl]
  rw [← hS]
  clear hS
  go_wp2_with fail
  refine D1.out.mono ?_
  rintro e w1 ⟨An1, cn1, A1, c1, rfl, ht1, hb1⟩
  have B1 := Lib.hid (hb1.trans ((bel1 w1 (.cells (tcc T An1 cn1 A1 c1) 25)).mono hb1.size))
  have D3 := Lib.hid (D2.out _ _ An1 cn1 A1 c1 (ht1.below (bel1 w1 (.cells (tcc T An1 cn1 A1 c1) 25))))
  clear ht1 hb1 D1 D2
  obtain ⟨k, ns, ps⟩ := T
  simp only [tcc, tv, kind_mk, names_mk, parts_mk] at B1 D3
  go_wp2_with fail
  refine D3.out.mono ?_
  rintro e w2 ⟨rfl, h2⟩
  have B2 := Lib.hid (B1.out.trans (h2.mono B1.out.size))
  clear h2 D3
  go_wp2_with fail
  (first | go_ret | go_ret2)
  exact ⟨rfl, B2.out⟩
theorem awake9_any (w : World) (hT : Tabs w) (hE : Errs w) : Calls Tryz.prog 13 #[] w fun e w' => e = .returned (.bool true) ∧ Below w.heap.size w w' :=
  awake9_gen s5 t5 rfl c5 (fun w P An cn A c ht => by
    have := text_any t5 (by decide) txl5 w P An cn A c ht
    rw [txt5] at this
    exact this) w hT hE
end Tm
end Go.Proofs.YtifkjngclkklfaaGreatDoor
