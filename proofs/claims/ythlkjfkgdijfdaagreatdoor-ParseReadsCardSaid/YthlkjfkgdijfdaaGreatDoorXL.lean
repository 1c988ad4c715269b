/- Contracts: tree.Show of a whole tree. -/
import Derived.Test.YthlkjfkgdijfdaaGreatDoorXK
import Derived.Deep.CutRange
namespace Go.Proofs.YthlkjfkgdijfdaaGreatDoor
open Go.RowKit
namespace Pg
open Ps
def nodeB (h : Hd) (ks : List UInt8) : List UInt8 := if h.kind = 0 then [45] else 40 :: ((nmB h.kind).data.toList ++ ((if h.word.size = 0 then [] else 32 :: h.word.data.toList) ++ (ks ++ [41])))
def showF : Fo → List UInt8
  | .nil => []
  | .cons h k r => 32 :: (nodeB h (showF k) ++ showF r)
theorem KV.bel {w w' : World} {P : Nat → Prop} {k : Fo} {A : Option Addr} {cap B : Nat} (h : KV w P k A cap) (hb : Below B w w') (hP : ∀ g, P g → g < B) : KV w' P k A cap := h.keep hb.size (fun g hg _ => ⟨hb.block g (hP g hg), hg⟩)
theorem others_below {w w' : World} {e : TypeId} {b : Option Nat} (hb : Below w.heap.size w w') : Lib.OthersKept e b w w' := fun j o ho _ _ => by
  have hj : j < w.heap.size := by
    rcases Nat.lt_or_ge j w.heap.size with h | h
    · exact h
    · rw [Array.getElem?_eq_none h] at ho; cases ho
  rw [hb.block j hj]
  exact ho
theorem bc_snoc (bs : List Value) (a b : List UInt8) : bs ++ Lib.byteCells a ++ Lib.byteCells b = bs ++ Lib.byteCells (a ++ b) := by rw [Lib.byteCells_append, List.append_assoc]

set_option maxHeartbeats 8000000 in
set_option maxRecDepth 100000 in
theorem show_any (B b : Nat) : ∀ (n : Nat) (h : Hd) (k : Fo) (A : Option Addr) (cap : Nat) (P : Nat → Prop) (bs : List Value) (w : World), k.deep ≤ n → k.len ≤ 1000001 → k.wide ≤ 1000001 → (∀ g, P g → g < B) → KV w P k A cap → Lib.IsBuilder 66 5 B b bs w → bs.length + (nodeB h (showF k)).length ≤ 1000000000000 → B ≤ w.heap.size → Names w → 0 < B →
    Calls Tryz.prog 35 #[.pointer (some ⟨b, 0, none⟩), nvv h A k.len cap] w fun e w' => e = .returned (.tuple #[]) ∧ Lib.IsBuilder 66 5 B b (bs ++ Lib.byteCells (nodeB h (showF k))) w' ∧ Below B w w' ∧ Lib.OthersKept 5 (some b) w w' := by
  intro n
  induction n using Nat.strongRecOn with
  | _ n ih =>
  intro h k A cap P bs w hd hl hw hPB hk hI hlen hBw hN hB0
  obtain ⟨x1, x2, x3, x4, x5⟩ := h
  have hbw := builder_lt hI
  have HI0 : Hid (Lib.IsBuilder 66 5 B b bs (w.alloc (.cells (ncc ⟨x1, x2, x3, x4, x5⟩ A k.len cap) 25))) := builder_below hI ((Below.refl _ _).alloc (Nat.le_refl _) _)
  have HB1 := Lib.hid ((Below.refl B w).alloc hBw (.cells (ncc ⟨x1, x2, x3, x4, x5⟩ A k.len cap) 25))
  have HO1 := Lib.hid ((Lib.OthersKept.refl 5 (some b) w).alloc (.cells (ncc ⟨x1, x2, x3, x4, x5⟩ A k.len cap) 25))
  have R1 := Lib.hid (RowB.new w 25 (ncc ⟨x1, x2, x3, x4, x5⟩ A k.len cap))
  have HN := Lib.hid hN
  have HK := Lib.hid hk
  have HPB := Lib.hid hPB
  have IH := Lib.hid ih
  have hW1 : B ≤ (w.alloc (.cells (ncc ⟨x1, x2, x3, x4, x5⟩ A k.len cap) 25)).heap.size := by simp; omega
  clear hk hI hN ih hPB
  by_cases h0 : x1 = 0
  · subst h0
    have e : nodeB ⟨0, x2, x3, x4, x5⟩ (showF k) = [45] := rfl
    rw [e] at hlen ⊢
    have CB := Lib.hid (byte_any B b bs 45 _ HI0.out (by simp at hlen; omega) hW1)
    go_enter Tryz.func35, Tryz.ntmps35
    go_wp2_with fail
    refine CB.out.mono ?_
    rintro e w1 ⟨rfl, h1, h2, h3⟩
    have G1 := Lib.hid h1
    have G2 := Lib.hid (HB1.out.trans h2)
    have G3 := Lib.hid (HO1.out.trans h3)
    clear h1 h2 h3 CB
    go_wp2_with fail
    refine bodyPost_ret (results_none rfl _ _ _) rfl ?_
    exact ⟨rfl, G1.out, G2.out, G3.out⟩
  · have hne : ((x1 : Int) == 0) = false := by rw [beq_eq_false_iff_ne]; omega
    obtain ⟨wd, hwd⟩ : ∃ wd, wd = (if x4.size = 0 then [] else 32 :: x4.data.toList) := ⟨_, rfl⟩
    have e : nodeB ⟨x1, x2, x3, x4, x5⟩ (showF k) = 40 :: ((nmB x1).data.toList ++ (wd ++ (showF k ++ [41]))) := by
      unfold nodeB
      dsimp only
      rw [if_neg h0, hwd]
    rw [e] at hlen ⊢
    have HWD := Lib.hid hwd
    have hln : (nmB x1).data.toList.length = (nmB x1).size := by simp
    simp only [List.length_cons, List.length_append, List.length_nil, hln] at hlen
    clear e hwd
    have CB := Lib.hid (byte_any B b bs 40 _ HI0.out (by omega) hW1)
    go_enter Tryz.func35, Tryz.ntmps35
    go_wp2_with fail
    refine CB.out.mono ?_
    rintro e w1 ⟨rfl, h1, h2, h3⟩
    have G1 : Hid (Lib.IsBuilder 66 5 B b (bs ++ Lib.byteCells [40]) w1) := h1
    have G2 := Lib.hid (HB1.out.trans h2)
    have G3 := Lib.hid (HO1.out.trans h3)
    have R2 := Lib.hid (row_others R1.out h3 (by omega) (by decide))
    have r2 := R2.out.cell
    have hW2 := h2.size
    clear h1 h2 h3 CB HI0 HB1 HO1 R1
    have hN1 : Names w1 := fun j hj => by
      obtain ⟨a1, a2⟩ := HN.out j hj
      exact ⟨(G2.out.cell (p := ⟨0, j, none⟩) hB0).trans a1, by omega⟩
    have CK := Lib.hid (kind_name ⟨x1, x2, x3, x4, x5⟩ A k.len cap w1 hN1)
    clear hN1
    go_wp2_with fail
    refine CK.out.mono ?_
    rintro e w2 ⟨rfl, hb⟩
    have G4 : Hid (Lib.IsBuilder 66 5 B b (bs ++ Lib.byteCells [40]) w2) := builder_below G1.out hb
    have G5 := Lib.hid (G2.out.trans (hb.mono (by omega)))
    have G6 : Hid (Lib.OthersKept 5 (some b) w w2) := G3.out.trans (others_below hb)
    have R3 := Lib.hid (R2.out.below hb R2.out.lt)
    have r3 := R3.out.cell
    have hW3 := hb.size
    clear hb CK r2 R2 G1 G2 G3
    have CW := Lib.hid (write_any B b _ (nmB x1) w2 G4.out (by rw [List.length_append, Lib.byteCells_length]; simp; omega) (by omega))
    dsimp only
    go_wp2_with fail
    refine CW.out.mono ?_
    rintro e w3 ⟨rfl, h1, h2, h3⟩
    have G1 : Hid (Lib.IsBuilder 66 5 B b (bs ++ Lib.byteCells (40 :: (nmB x1).data.toList)) w3) := by
      have := h1
      rw [Lib.strCells_eq, bc_snoc] at this
      exact this
    have G2 := Lib.hid (G5.out.trans h2)
    have G3 := Lib.hid (G6.out.trans h3)
    have R4 := Lib.hid (row_others R3.out h3 (by omega) (by decide))
    have r4 := R4.out.cell
    have hW4 := h2.size
    clear h1 h2 h3 CW G4 G5 G6 R3 r3
    go_upto_if 19 with fail
    generalize hzz : (!x4.toList.isEmpty) = z
    have HZZ := Lib.hid hzz
    clear hzz
    go_cut [20] from 20 to 25 (fun s20 wx => s20 = s20 ∧ Hid (Lib.IsBuilder 66 5 B b (bs ++ Lib.byteCells (40 :: ((nmB x1).data.toList ++ wd))) wx) ∧ Hid (Below B w wx) ∧ Hid (Lib.OthersKept 5 (some b) w wx) ∧ Hid (RowB wx w.heap.size 25 (ncc ⟨x1, x2, x3, x4, x5⟩ A k.len cap)))
    case first =>
      cases z
      · have hz : x4.size = 0 := by
          have := HZZ.out
          rw [ByteArray.toList_eq] at this
          obtain ⟨⟨l⟩⟩ := x4
          cases l with
          | nil => rfl
          | cons a t => simp at this
        have hwd0 : wd = [] := by rw [HWD.out, if_pos hz]
        subst hwd0
        clear HWD HZZ hz
        go_wp2_with fail
        go_meet
        exact ⟨trivial, by rw [List.append_nil]; exact G1.out, G2.out, G3.out, R4.out⟩
      · have hz : ¬ x4.size = 0 := fun e => by
          have := HZZ.out
          rw [ByteArray.toList_eq] at this
          obtain ⟨⟨l⟩⟩ := x4
          cases l with
          | nil => simp at this
          | cons a t => simp [ByteArray.size] at e
        rw [if_neg hz] at HWD
        clear HZZ
        have CB := Lib.hid (byte_any B b _ 32 _ G1.out (by rw [List.length_append, Lib.byteCells_length]; simp; omega) (by omega))
        have hwl : wd.length = x4.size + 1 := by rw [HWD.out]; simp
        go_wp2_with fail
        refine CB.out.mono ?_
        rintro e w4 ⟨rfl, h1, h2, h3⟩
        have F1 : Hid (Lib.IsBuilder 66 5 B b (bs ++ Lib.byteCells (40 :: (nmB x1).data.toList ++ [32])) w4) := by
          have := h1
          rw [show [Value.int .u8 ((32 : Nat) : Int)] = Lib.byteCells [32] from rfl, bc_snoc] at this
          exact this
        have F2 := Lib.hid (G2.out.trans h2)
        have F3 := Lib.hid (G3.out.trans h3)
        have R5 := Lib.hid (row_others R4.out h3 (by omega) (by decide))
        have r5 := R5.out.cell
        have hW5 := h2.size
        clear h1 h2 h3 CB r4 R4 G1 G2 G3
        have CW := Lib.hid (write_any B b _ x4 w4 F1.out (by rw [List.length_append, Lib.byteCells_length]; simp; omega) (by omega))
        go_wp2_with fail
        refine CW.out.mono ?_
        rintro e w5 ⟨rfl, h1, h2, h3⟩
        have E1 : Hid (Lib.IsBuilder 66 5 B b (bs ++ Lib.byteCells (40 :: ((nmB x1).data.toList ++ wd))) w5) := by
          have := h1
          rw [Lib.strCells_eq, bc_snoc] at this
          unfold Hid
          rw [HWD.out]
          rw [List.append_assoc] at this
          exact this
        have E2 := Lib.hid (F2.out.trans h2)
        have E3 := Lib.hid (F3.out.trans h3)
        have R6 := Lib.hid (row_others R5.out h3 (by omega) (by decide))
        clear h1 h2 h3 CW
        go_wp2_with fail
        go_meet
        exact ⟨trivial, E1.out, E2.out, E3.out, R6.out⟩
    case rest =>
    obtain ⟨_, C1, C2, C3, C4⟩ := hcut
    clear HZZ
    have rc := C4.out.cell
    have hWc := C2.out.size
    obtain ⟨n0, hn0⟩ : ∃ n0, n0 = k.len := ⟨_, rfl⟩
    have HNL := Lib.hid hn0
    have HDD := Lib.hid hd
    have HWW := Lib.hid hw
    have hln2 : bs.length + ((1 + (nmB x1).size + wd.length) + (showF k).length) + 1 ≤ 1000000000000 := by omega
    obtain ⟨hdL, hhd⟩ : ∃ hdL : List UInt8, hdL = 40 :: ((nmB x1).data.toList ++ wd) := ⟨_, rfl⟩
    have hhl : hdL.length = 1 + (nmB x1).size + wd.length := by rw [hhd]; simp; omega
    rw [← hhl] at hln2
    rw [← hhd] at C1
    have HHD := Lib.hid hhd
    rw [← hn0] at rc hl
    clear G1 G2 G3 R4 r4 hn0 hd hw hhd hlen hln hhl HWD C4
    go_wp2_with fail
    go_loopg [29] (n0 + 1) (fun kx s29 wr => ∃ (i : Nat) (pr : List UInt8), s29 = .int .i64 i ∧ n0 - i ≤ kx ∧ i ≤ n0 ∧ Hid (pr ++ showF (k.drop i) = showF k) ∧ Hid (Lib.IsBuilder 66 5 B b (bs ++ Lib.byteCells (hdL ++ pr)) wr) ∧ Hid (Below B w wr) ∧ Hid (Lib.OthersKept 5 (some b) w wr))
    case atStart => exact ⟨0, [], rfl, by omega, by omega, by unfold Hid; rw [Fo.drop_zero]; rfl, by unfold Hid; rw [List.append_nil]; exact C1.out, C2.out, C3.out⟩
    case round =>
      obtain ⟨i, pr, rfl, hkx, hin, HP, HI, HB, HO⟩ := hrel
      clear C1 C2 C3 rc
      have hWr := HB.out.size
      by_cases hi : i < n0
      · have hil : (i : Int) < (n0 : Int) := by omega
        obtain ⟨h', kk, e⟩ := Fo.drop_cons k i (by rw [← HNL.out]; exact hi)
        obtain ⟨g, o, A2, c2, rfl, hP, hg, hkk, c0, c1, c2', c3, c4, c5⟩ := KV.nth (KV.bel HK.out HB.out HPB.out) e
        obtain ⟨b1, b2, b3⟩ := Fo.drop_bounds k i _ _ _ e
        have hsh : showF (k.drop i) = 32 :: (nodeB h' (showF kk) ++ showF (k.drop (i + 1))) := by rw [e, showF]
        obtain ⟨j, hj⟩ : ∃ j, j = i + 1 := ⟨_, rfl⟩
        have e1 : IntKind.i64.wrap ((i : Int) + 1) = (j : Int) := by rw [IntKind.wrap_i64]; omega
        obtain ⟨nb, hnb⟩ : ∃ nb, nb = nodeB h' (showF kk) := ⟨_, rfl⟩
        have hP2 : pr ++ (32 :: nb) ++ showF (k.drop j) = showF k := by
          have := HP.out
          rw [hsh, ← hnb, ← hj] at this
          rw [← this]
          simp
        have hlp := congrArg List.length hP2
        simp only [List.length_append, List.length_cons] at hlp
        have B1 := Lib.hid (bel1 wr (.cells (ncc h' A2 kk.len c2) 25))
        have HI1 : Hid (Lib.IsBuilder 66 5 B b (bs ++ Lib.byteCells (hdL ++ pr)) (wr.alloc (.cells (ncc h' A2 kk.len c2) 25))) := builder_below HI.out B1.out
        have RK := Lib.hid (RowB.new wr 25 (ncc h' A2 kk.len c2))
        have HBa := Lib.hid (HB.out.alloc (by omega) (.cells (ncc h' A2 kk.len c2) 25))
        have HOa := Lib.hid (HO.out.alloc (.cells (ncc h' A2 kk.len c2) 25))
        have CB := Lib.hid (byte_any B b _ 32 _ HI1.out (by rw [List.length_append, Lib.byteCells_length, List.length_append]; omega) (by have := HBa.out.size; omega))
        have hblt := builder_lt HI.out
        have CC : Hid (∀ w' bs', Below B wr w' → Lib.IsBuilder 66 5 B b bs' w' → bs'.length + nb.length ≤ 1000000000000 → B ≤ w'.heap.size → Names w' → Calls Tryz.prog 35 #[.pointer (some ⟨b, 0, none⟩), nvv h' A2 kk.len c2] w' fun e w'' => e = .returned (.tuple #[]) ∧ Lib.IsBuilder 66 5 B b (bs' ++ Lib.byteCells nb) w'' ∧ Below B w' w'' ∧ Lib.OthersKept 5 (some b) w' w'') := fun w' bs' hb q1 q2 q3 q4 => by
          rw [hnb] at q2 ⊢
          exact IH.out kk.deep (by have := HDD.out; omega) h' kk A2 c2 P bs' w' (Nat.le_refl _) (by have := HWW.out; omega) (by have := HWW.out; omega) HPB.out (KV.bel hkk hb HPB.out) q1 q2 q3 q4 hB0
        have HP2 := Lib.hid hP2
        have HJ := Lib.hid hj
        clear e hkk b1 b2 b3 hsh hnb hP2 hj HP HI
        go_wp2_with fail
        refine CB.out.mono ?_
        rintro e w4 ⟨rfl, h1, h2, h3⟩
        have F1 : Hid (Lib.IsBuilder 66 5 B b (bs ++ Lib.byteCells (hdL ++ pr ++ [32])) w4) := by
          have := h1
          rw [show [Value.int .u8 ((32 : Nat) : Int)] = Lib.byteCells [32] from rfl, bc_snoc] at this
          exact this
        have F2 := Lib.hid (HBa.out.trans h2)
        have F3 := Lib.hid (HOa.out.trans h3)
        have FB := Lib.hid ((B1.out.mono (by omega)).trans h2)
        have R5 := Lib.hid (row_others RK.out h3 (by omega) (by decide))
        have r5 := R5.out.cell
        have hN4 : Names w4 := fun j hj => by
          obtain ⟨a1, a2⟩ := HN.out j hj
          exact ⟨(F2.out.cell (p := ⟨0, j, none⟩) hB0).trans a1, by have := F2.out.size; omega⟩
        have C2 := Lib.hid (CC.out w4 _ FB.out F1.out (by rw [List.length_append, Lib.byteCells_length]; simp only [List.length_append, List.length_cons, List.length_nil]; omega) (by have := F2.out.size; omega) hN4)
        clear h1 h2 h3 CB HBa HOa RK HI1 B1 CC hN4
        go_wp2_with fail
        refine C2.out.mono ?_
        rintro e w5 ⟨rfl, h1, h2, h3⟩
        have E1 : Hid (Lib.IsBuilder 66 5 B b (bs ++ Lib.byteCells (hdL ++ (pr ++ (32 :: nb)))) w5) := by
          have := h1
          rw [bc_snoc] at this
          unfold Hid
          rw [show hdL ++ (pr ++ (32 :: nb)) = hdL ++ pr ++ [32] ++ nb by simp]
          exact this
        have E2 := Lib.hid (F2.out.trans h2)
        have E3 := Lib.hid (F3.out.trans h3)
        have hj := HJ.out
        clear h1 h2 h3 C2 r5 R5
        go_wp2_with fail
        go_roundg (n0 - j)
        case measure => omega
        case rel => exact ⟨j, pr ++ (32 :: nb), (by first | rfl | rw [show (j : Int) = (i : Int) + 1 by omega]), by omega, by omega, HP2.out, E1.out, E2.out, E3.out⟩
      · have hd1 : decide ((i : Int) < (n0 : Int)) = false := decide_eq_false (by omega)
        have hd2 : decide (i < n0) = false := decide_eq_false (by omega)
        have hpr : pr = showF k := by
          have := HP.out
          rw [Fo.drop_end k i (by rw [← HNL.out]; omega)] at this
          rw [← this]
          simp [showF]
        subst hpr
        have CB := Lib.hid (byte_any B b _ 41 _ HI.out (by rw [List.length_append, Lib.byteCells_length, List.length_append]; omega) (by omega))
        clear HP hi
        go_wp2_with fail
        refine CB.out.mono ?_
        rintro e w4 ⟨rfl, h1, h2, h3⟩
        have F1 : Hid (Lib.IsBuilder 66 5 B b (bs ++ Lib.byteCells (40 :: ((nmB x1).data.toList ++ (wd ++ (showF k ++ [41]))))) w4) := by
          have := h1
          rw [show [Value.int .u8 ((41 : Nat) : Int)] = Lib.byteCells [41] from rfl, bc_snoc, HHD.out] at this
          unfold Hid
          simpa using this
        have F2 := Lib.hid (HB.out.trans h2)
        have F3 := Lib.hid (HO.out.trans h3)
        clear h1 h2 h3 CB
        go_wp2_with fail
        go_end0
        exact ⟨rfl, F1.out, F2.out, F3.out⟩

end Pg
end Go.Proofs.YthlkjfkgdijfdaaGreatDoor
/- Contracts: tree.Show. -/
namespace Go.Proofs.YthlkjfkgdijfdaaGreatDoor
open Go.RowKit
namespace Pg
open Ps
set_option maxHeartbeats 1000000 in
set_option maxRecDepth 100000 in
theorem show_all (h : Hd) (k : Fo) (A : Option Addr) (cap : Nat) (P : Nat → Prop) (w : World) (hl : k.len ≤ 1000001) (hw : k.wide ≤ 1000001) (hk : KV w P k A cap) (hlen : (nodeB h (showF k)).length ≤ 1000000000000) (hN : Names w) :
    Calls Tryz.prog 21 #[nvv h A k.len cap] w fun e w' => e = .returned (.string ⟨(nodeB h (showF k)).toArray⟩) ∧ Below w.heap.size w w' := by
  have h0 : 0 < w.heap.size := (hN 0 (by decide)).2
  have hB1 := bel1 w (.cells (ncc h A k.len cap) 25)
  obtain ⟨w1, hw1⟩ : ∃ w1, w1 = w.alloc (.cells (ncc h A k.len cap) 25) := ⟨_, rfl⟩
  rw [← hw1] at hB1
  have hsz : w1.heap.size = w.heap.size + 1 := by rw [hw1]; simp
  have HB0 : Hid (Lib.IsBuilder 66 5 w1.heap.size w1.heap.size [] (w1.alloc (.cells #[.pointer none, .slice none 0 0] 66))) := Lib.fresh_isBuilder 66 5 w1
  have HBA := Lib.hid (hB1.alloc (by omega) (.cells #[.pointer none, .slice none 0 0] 66))
  have hk2 : KV (w1.alloc (.cells #[.pointer none, .slice none 0 0] 66)) (fun g => g < w1.heap.size) k A cap := hk.keep HBA.out.size (fun g _ hl => ⟨HBA.out.block g hl, by omega⟩)
  have hlen2 : ([] : List Value).length + (nodeB h (showF k)).length ≤ 1000000000000 := by rw [List.length_nil, Nat.zero_add]; exact hlen
  have hs1 : w1.heap.size ≤ (w1.alloc (.cells #[.pointer none, .slice none 0 0] 66)).heap.size := by simp
  have hN1 := hN.step HBA.out
  have CS := show_any w1.heap.size w1.heap.size k.deep h k A cap (fun g => g < w1.heap.size) [] (w1.alloc (.cells #[.pointer none, .slice none 0 0] 66)) (Nat.le_refl _) hl hw (fun g hg => hg) hk2 HB0.out hlen2 hs1 hN1 (by omega)
  rw [List.nil_append] at CS
  have HSZ : Hid (w1.heap.size = w.heap.size + 1) := hsz
  have CF : Hid (∀ (out : List UInt8) (w' : World), Lib.IsBuilder 66 5 (w.heap.size + 1) (w.heap.size + 1) (Lib.byteCells out) w' → w.heap.size + 1 ≤ w'.heap.size → Calls Tryz.prog 28 #[.pointer (some ⟨w.heap.size + 1, 0, none⟩)] w' fun e w'' => e = .returned (.string ⟨out.toArray⟩) ∧ Below (w.heap.size + 1) w' w'') := fun out w' h1 h2 => sh_Builder_String_any (w.heap.size + 1) (w.heap.size + 1) out w' h1 h2
  generalize nodeB h (showF k) = out at *
  rw [hsz] at CS
  rw [hw1] at CS HBA
  have CS := Lib.hid CS
  obtain ⟨x1, x2, x3, x4, x5⟩ := h
  clear hk hk2 hN hlen hlen2 hs1 hN1 hl hw hw1 hB1 HB0 HSZ hsz
  go_enter Tryz.func21, Tryz.ntmps21
  go_wp2_with fail
  refine CS.out.mono ?_
  rintro e w1 ⟨rfl, h1, h2, _⟩
  have G2 := Lib.hid (HBA.out.trans (h2.mono (by omega)))
  have CS2 := Lib.hid (CF.out out w1 h1 (by have := h2.size; simp at this; omega))
  clear h1 h2
  go_wp2_with fail
  refine CS2.out.mono ?_
  rintro e w2 ⟨rfl, hb⟩
  have G3 := Lib.hid (G2.out.trans (hb.mono (by omega)))
  clear hb
  go_wp2_with fail
  go_ret
  exact ⟨rfl, G3.out⟩
end Pg
end Go.Proofs.YthlkjfkgdijfdaaGreatDoor
/- Contracts: the document's example. -/
namespace Go.Proofs.YthlkjfkgdijfdaaGreatDoor
open Go.RowKit
namespace Pg
open Ps
theorem ex_of : ofM exS = .ok exT exH exK := by
  unfold ofM
  rw [ex_lex]
  dsimp only
  rw [ex_parse]
theorem ex_show : (nodeB exH (showF exK)) = [40, 102, 105, 108, 101, 32, 40, 100, 101, 102, 32, 109, 97, 105, 110, 32, 40, 112, 97, 114, 97, 109, 115, 41, 32, 45, 32, 40, 98, 108, 111, 99, 107, 41, 41, 41] := by kernel_rfl
theorem ex_len : exK.len = 1 ∧ exK.wide = 3 := ⟨by kernel_rfl, by kernel_rfl⟩

set_option maxHeartbeats 2000000 in
set_option maxRecDepth 100000 in
theorem awake_any (w : World) (hT : Tabs w) (hE : Errs w) (hN : Names w) : Calls Tryz.prog 9 #[] w fun e w' => e = .returned (.bool true) ∧ Below w.heap.size w w' := by
  have CO := Lib.hid (of_any exS (by decide) w hT hE)
  have HN := Lib.hid hN
  have hs0 := (hN 0 (by decide)).2
  clear hT hE hN
  go_enter Tryz.func9, Tryz.ntmps9
  go_wp2_with fail
  refine CO.out.mono ?_
  rintro e w1 ⟨hb, ho⟩
  rw [ex_of] at ho
  obtain ⟨A, c, A1, c1, rfl, _, _, hk⟩ := ho
  have B1 := Lib.hid (hb.alloc hb.size (.cells (ncc exH A1 exK.len c1) 25))
  have hk2 := KV.keep (w' := w1.alloc (.cells (ncc exH A1 exK.len c1) 25)) (Q := fun g => g < w1.heap.size) (by simp) (fun g _ hl => ⟨Below.heap_alloc _ _ _ hl, hl⟩) hk
  have CS := show_all exH exK A1 c1 _ _ (by rw [ex_len.1]; decide) (by rw [ex_len.2]; decide) hk2 (by rw [ex_show]; decide) (HN.out.step B1.out)
  rw [ex_show] at CS
  have CS := Lib.hid CS
  clear hb hk hk2
  unfold exH at *
  dsimp only at *
  go_wp2_with fail
  refine CS.out.mono ?_
  rintro e w2 ⟨rfl, hb⟩
  have B2 := Lib.hid (B1.out.trans (hb.mono B1.out.size))
  clear hb
  go_wp2_with fail
  go_ret
  exact ⟨rfl, B2.out⟩
end Pg
end Go.Proofs.YthlkjfkgdijfdaaGreatDoor
