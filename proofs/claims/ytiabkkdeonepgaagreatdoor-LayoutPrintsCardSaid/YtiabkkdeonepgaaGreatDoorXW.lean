import Derived.Test.YtiabkkdeonepgaaGreatDoorXU
import Derived.Test.YtiabkkdeonepgaaGreatDoorXV
set_option maxRecDepth 100000
namespace Go.Proofs.YtiabkkdeonepgaaGreatDoor
open Go.RowKit
namespace Pg
open Ps
theorem cells5 : Tryz.prog.cellsOf 5 = 1 := by kernel_rfl
set_option maxHeartbeats 4000000 in
theorem string_w (B b d : Nat) (l : List UInt8) (w : World) (h : Prn B b (Lib.byteCells l) d w) (hB : B ≤ w.heap.size) :
    Calls Tryz.prog 15 #[.pointer (some ⟨b, 0, none⟩)] w fun e w' => e = .returned (.string ⟨l.toArray⟩) ∧ Below B w w' := by
  obtain ⟨p, v, hBb, hbk, hown, hne⟩ : ∃ p v, B ≤ b ∧ w.heap[b]? = some (.cells #[p, v, .int .i64 d] 51 (0, 0)) ∧ w.ownsRow B 5 1 v (Lib.byteCells l).length (Lib.byteCells l) ∧ v.ownBlock ≠ some b := by
    rcases h with ⟨h1, v, h2, h3, h4⟩ | ⟨h1, v, h2, h3, h4⟩ <;> exact ⟨_, v, h1, h2, h3, h4⟩
  have hblt := heap_lt hbk
  rw [Lib.byteCells_length] at hown
  have c0 : w.cell? ⟨b, 1, none⟩ = some v := by rw [Lib.cell_of_heap hbk]; rfl
  have c1 : w.drew.cell? ⟨b, 1, none⟩ = some v := c0
  have hUN : ∀ (q : Option Addr) (w' : World), (Builtin.unsafeString_ #[70, 3] 9 #[.pointer q, .int .i64 0]).run Tryz.prog w' = .ok (.string ⟨#[]⟩) w' := fun q w' => Lib.run_unsafeString_none (P := Tryz.prog) (w := w') 70 3 9 q
  by_cases hl : l = []
  · subst hl
    rcases hown.2 with ⟨rfl, _⟩ | ⟨g, cap, cur, rfl, hbg, hg, hnc, hcm, hcs, htake⟩
    · have hSD : ∀ w' : World, (Builtin.unsafeSliceData_ #[47] 70 #[.slice none 0 0]).run Tryz.prog w' = .ok (.pointer none) w' := fun _ => rfl
      clear h hown hne
      go_enter Tryz.func15, Tryz.ntmps15
      go_wp2
      go_region
      all_goals (go_wp2; go_ret; exact ⟨rfl, Below.drew (Below.refl B w)⟩)
    · by_cases hc0 : cap = 0
      · subst hc0
        have hSD : (Builtin.unsafeSliceData_ #[47] 70 #[.slice (some ⟨g, 0, none⟩) 0 0]).run Tryz.prog w.drew = .ok (.pointer (some ⟨w.drew.heap.size, 0, none⟩)) (w.drew.alloc (.view ⟨g, 0, none⟩ 5)) :=
          Lib.run_unsafeSliceData_zero (P := Tryz.prog) (w := w.drew) _ _ 5 Tryz.underlying70 ⟨g, 0, none⟩ 0 (5, cur.size) (by have hg' : w.drew.heap[g]? = some (.cells cur 5 (0, 0)) := hg; simp [World.shape?, hg'])
        have c2 : (w.drew.alloc (.view ⟨g, 0, none⟩ 5)).cell? ⟨b, 1, none⟩ = some (.slice (some ⟨g, 0, none⟩) 0 0) := by
          have : (w.drew.alloc (.view ⟨g, 0, none⟩ 5)).heap[b]? = _ := (Lib.alloc_old w.drew _ b hblt).trans hbk
          rw [Lib.cell_of_heap this]; rfl
        have c3 : (w.alloc (.view ⟨g, 0, none⟩ 5)).drew.cell? ⟨b, 1, none⟩ = some (.slice (some ⟨g, 0, none⟩) 0 0) := c2
        clear h hown hne
        go_enter Tryz.func15, Tryz.ntmps15
        go_wp2
        go_region
        all_goals (go_wp2; go_ret; exact ⟨rfl, (Below.drew (Below.refl B w)).alloc hB _⟩)
      · have hSD : ∀ w' : World, (Builtin.unsafeSliceData_ #[47] 70 #[.slice (some ⟨g, 0, none⟩) 0 cap]).run Tryz.prog w' = .ok (.pointer (some ⟨g, 0, none⟩)) w' := fun w' => Lib.run_unsafeSliceData_row (P := Tryz.prog) (w := w') _ _ _ _ _ hc0
        clear h hown hne hc0
        go_enter Tryz.func15, Tryz.ntmps15
        go_wp2
        go_region
        all_goals (go_wp2; go_ret; exact ⟨rfl, Below.drew (Below.refl B w)⟩)
  · have hl0 : l.length ≠ 0 := by simpa using hl
    obtain ⟨g, cap, cur, rfl, hbg, hg, hnc, hcm, hcs, htake⟩ : ∃ g cap cur, v = .slice (some ⟨g, 0, none⟩) l.length cap ∧ B ≤ g ∧ w.heap[g]? = some (.cells cur 5 (0, 0)) ∧ l.length ≤ cap ∧ cap ≤ maxLen ∧ cur.size = cap * 1 ∧ cur.toList.take (l.length * 1) = Lib.byteCells l := by
      rcases hown.2 with ⟨_, hz⟩ | ⟨g, cap, cur, hv, r⟩
      · exact absurd hz hl0
      · exact ⟨g, cap, cur, hv, r⟩
    have hSD : ∀ w' : World, (Builtin.unsafeSliceData_ #[47] 70 #[.slice (some ⟨g, 0, none⟩) l.length cap]).run Tryz.prog w' = .ok (.pointer (some ⟨g, 0, none⟩)) w' := fun w' => Lib.run_unsafeSliceData_row (P := Tryz.prog) (w := w') _ _ _ _ _ (by omega)
    have hUS : (Builtin.unsafeString_ #[70, 3] 9 #[.pointer (some ⟨g, 0, none⟩), .int .i64 l.length]).run Tryz.prog w.drew = .ok (.string ⟨l.toArray⟩) (w.drew.freeze ⟨g, 0, none⟩ l.length) := by
      refine Lib.run_unsafeString_row (P := Tryz.prog) w.drew 70 3 9 5 Tryz.underlying70 cells5 g cur.size (by have hg' : w.drew.heap[g]? = some (.cells cur 5 (0, 0)) := hg; simp [World.shape?, hg']) l hl (by omega) (by unfold maxLen at hcm; omega) ?_
      intro j x hx
      exact hown.cells (g := g) rfl j (.int .u8 x.toNat) (by simp [Lib.byteCells, hx])
    clear h hown hne hl hl0 hUN htake
    go_enter Tryz.func15, Tryz.ntmps15
    go_wp2
    go_region
    all_goals (go_wp2; go_ret; exact ⟨rfl, Lib.below_freeze (Below.drew (Below.refl B w)) (p := ⟨g, 0, none⟩) hbg _⟩)
end Pg
end Go.Proofs.YtiabkkdeonepgaaGreatDoor
namespace Go.Proofs.YtiabkkdeonepgaaGreatDoor
open Go.RowKit
namespace Pg
open Ps
theorem print_all : ∀ N, NodeW 104 tyK N ∧ NodeW 125 exK N ∧ NodeW 73 (· = 6) N ∧ NodeW 105 stK N := by
  intro N
  induction N using Nat.strongRecOn with
  | _ N IH =>
  have IT := fun m h => (IH m h).1
  have IE := fun m h => (IH m h).2.1
  have IB := fun m h => (IH m h).2.2.1
  have IS := fun m h => (IH m h).2.2.2
  refine ⟨typed_w N IT, expr_w N IE IT IB, ?_, stmt_w N IE IT IB⟩
  intro B b d bs h k A cap w hp hB hk ho hq hd hb hl
  obtain ⟨x1, x2, x3, x4, x5⟩ := h
  dsimp only at hq
  subst hq
  exact block_w N IS B b d bs w 6 x2 x3 x4 x5 k A cap hp hB hk ho.2.1 ho.1.2 hd hb _ rfl hl
set_option maxHeartbeats 4000000 in
theorem item_w (B b d : Nat) (bs : List Value) (h : Hd) (k : Fo) (A : Option Addr) (cap : Nat) (w : World) (hp : Prn B b bs d w) (hB : B ≤ w.heap.size) (hk : KV w (fun g => g < B) k A cap) (ho : okF (.one h k)) (hq : h.kind = 2 ∨ h.kind = 3) (hb : Bd d k)
    (hl : bs.length + (prN d h k).length ≤ lim) : Calls Tryz.prog 28 #[.pointer (some ⟨b, 0, none⟩), nvv h A k.len cap] w (Wrt B b d bs (prN d h k) w) := by
  obtain ⟨x1, x2, x3, x4, x5⟩ := h
  have hs0 : shp x1 k.kinds := ho.1.2
  have hok := ho.2.1
  have hbl := hp.lt
  obtain ⟨x, hx⟩ : ∃ x, x = prN d ⟨x1, x2, x3, x4, x5⟩ k := ⟨_, rfl⟩
  rw [← hx] at hl ⊢
  dsimp only at hq
  clear ho
  rcases hq with hK | hK
  · have hs := hs0
    rw [hK] at hs
    obtain ⟨m, mk, rfl, hm⟩ := kinds1 (hs : k.kinds = [23])
    obtain ⟨m1, m2, m3, m4, m5⟩ := m
    dsimp only at hm
    have hx2 : [117, 115, 101, 32] ++ m4.data.toList ++ [46] ++ x4.data.toList ++ [59] = x := by rw [hx, hK, hm]; rfl
    have hlen := Nat.le_of_eq (congrArg List.length hx2)
    simp at hlen
    have HX := Lib.hid hx2
    have t2 : ((x1 : Int) == 2) = true := by rw [beq_iff_eq]; omega
    rw [show (Fo.cons ⟨m1, m2, m3, m4, m5⟩ mk .nil).len = 1 from rfl]
    obtain ⟨g, o, rfl, hg, hkid⟩ := KidAt.of hk (by simp [Fo.len])
    clear hs hm
    have P0 := Lib.hid (Pw.start (hp.below (bel1 w (.cells #[.int .i64 x1, .int .i64 x2, .int .i64 x3, .string x4, .int .i64 x5, .slice (some ⟨g, o, none⟩) 1 cap] 25))) (by simp; omega))
    have R0 := Lib.hid (RowB.new w 25 #[.int .i64 x1, .int .i64 x2, .int .i64 x3, .string x4, .int .i64 x5, .slice (some ⟨g, o, none⟩) 1 cap])
    obtain ⟨Am, cm, km⟩ := hkid 0 _ _ _ rfl
    rw [show o + 0 * 6 = o by omega] at km
    have Km := Lib.hid (km.keep ((Below.refl B w).alloc hB (.cells #[.int .i64 x1, .int .i64 x2, .int .i64 x3, .string x4, .int .i64 x5, .slice (some ⟨g, o, none⟩) 1 cap] 25)))
    clear km
    clear hkid hs0 hx hx2 hp hk hok hK hb
    go_enter Tryz.func28, Tryz.ntmps28
    have rc := R0.out.cell
    go_wp2_with fail
    have PD := Lib.hid (P0.out.other ((Below.refl _ _).drew))
    have q := Km.out.keep PD.out.bl
    have C := Lib.hid (PD.out.texts (w.heap.size + 1) (by first | (simp; done) | rfl) [⟨#[117, 115, 101, 32]⟩, m4, ⟨#[46]⟩, x4, ⟨#[59]⟩] 5 #[.string ⟨#[117, 115, 101, 32]⟩, .string m4, .string ⟨#[46]⟩, .string x4, .string ⟨#[59]⟩] ([117, 115, 101, 32] ++ m4.data.toList ++ [46] ++ x4.data.toList ++ [59]) rfl (by simp [cat]) rfl (by simp) hl (by simp <;> omega))
    have HS0 : (∀ j, (w.alloc (.cells #[.int .i64 x1, .int .i64 x2, .int .i64 x3, .string x4, .int .i64 x5, .slice (some ⟨g, o, none⟩) 1 cap] 25)).drew.cell? ⟨w.heap.size, j, none⟩ = #[.int .i64 x1, .int .i64 x2, .int .i64 x3, .string x4, .int .i64 x5, .slice (some ⟨g, o, none⟩) 1 cap][j]?) ∧ (w.alloc (.cells #[.int .i64 x1, .int .i64 x2, .int .i64 x3, .string x4, .int .i64 x5, .slice (some ⟨g, o, none⟩) 1 cap] 25)).drew.cell? ⟨g, o + 3, none⟩ = some (.string m4) := ⟨(PD.out.row R0.out (by omega) (by decide)).cell, q.c3⟩
    have PE := Lib.hid (PD.out.alloc #[.string ⟨#[117, 115, 101, 32]⟩, .string m4, .string ⟨#[46]⟩, .string x4, .string ⟨#[59]⟩] 9)
    have q3 := Km.out.keep PE.out.bl
    have HSA : (∀ j, ((w.alloc (.cells #[.int .i64 x1, .int .i64 x2, .int .i64 x3, .string x4, .int .i64 x5, .slice (some ⟨g, o, none⟩) 1 cap] 25)).drew.alloc (.cells #[.string ⟨#[117, 115, 101, 32]⟩, .string m4, .string ⟨#[46]⟩, .string x4, .string ⟨#[59]⟩] 9)).cell? ⟨w.heap.size, j, none⟩ = #[.int .i64 x1, .int .i64 x2, .int .i64 x3, .string x4, .int .i64 x5, .slice (some ⟨g, o, none⟩) 1 cap][j]?) ∧ ((w.alloc (.cells #[.int .i64 x1, .int .i64 x2, .int .i64 x3, .string x4, .int .i64 x5, .slice (some ⟨g, o, none⟩) 1 cap] 25)).drew.alloc (.cells #[.string ⟨#[117, 115, 101, 32]⟩, .string m4, .string ⟨#[46]⟩, .string x4, .string ⟨#[59]⟩] 9)).cell? ⟨g, o + 3, none⟩ = some (.string m4) := ⟨(PE.out.row R0.out (by omega) (by decide)).cell, q3.c3⟩
    clear q q3 rc
    go_region_held3 (fun w' => (∀ j, w'.cell? ⟨w.heap.size, j, none⟩ = #[.int .i64 x1, .int .i64 x2, .int .i64 x3, .string x4, .int .i64 x5, .slice (some ⟨g, o, none⟩) 1 cap][j]?) ∧ w'.cell? ⟨g, o + 3, none⟩ = some (.string m4))
      (first
        | (with_reducible exact HS1)
        | (with_reducible exact HS0)
        | (with_reducible exact HSA)
        | exact HSA)
      (first
        | (go_at_call 46; refine C.out.mono ?_; rintro e w1 ⟨rfl, h1⟩; have P1 := Lib.hid h1; have q2 := Km.out.keep P1.out.bl; have HS1 := (And.intro (P1.out.row R0.out (by omega) (by decide)).cell q2.c3))
        | fail)
    go_wp2
    go_end0
    exact (P1.out.cast (by rw [← HX.out]; simp)).doneA hB
  · have hs := hs0
    rw [hK] at hs
    obtain ⟨tt, hks, ut⟩ := (hs : ∃ t, k.kinds = [4, t, 6] ∧ nT t)
    obtain ⟨p, pk, t, tk, q, qk, rfl, qp, rfl, qq⟩ := kinds3 hks
    have hx2 : [100, 101, 102, 32] ++ x4.data.toList ++ fnB (prt d (.cons p pk (.cons t tk (.cons q qk .nil)))) = x := by rw [hx, hK]; rfl
    have hlen := Nat.le_of_eq (congrArg List.length hx2)
    simp at hlen
    have HX := Lib.hid hx2
    have t2 : ((x1 : Int) == 2) = false := by rw [beq_eq_false_iff_ne]; omega
    have op := okF.drop 0 (h := p) hok rfl
    have ot := okF.drop 1 (h := t) hok rfl
    have oq := okF.drop 2 (h := q) hok rfl
    obtain ⟨k0, hk0⟩ : ∃ k0, k0 = (Fo.cons p pk (.cons t tk (.cons q qk .nil))).deep := ⟨_, rfl⟩
    have HDD : Hid ((Fo.cons p pk (.cons t tk (.cons q qk .nil))).deep ≤ k0 + 1) := by unfold Hid; omega
    have TT := (print_all k0).1
    have TB := (print_all k0).2.2.1
    rw [show (Fo.cons p pk (.cons t tk (.cons q qk .nil))).len = 3 from rfl]
    clear hk0
    have P0 := Lib.hid (Pw.start (hp.below (bel1 w (.cells #[.int .i64 x1, .int .i64 x2, .int .i64 x3, .string x4, .int .i64 x5, .slice A 3 cap] 25))) (by simp; omega))
    have R0 := Lib.hid (RowB.new w 25 #[.int .i64 x1, .int .i64 x2, .int .i64 x3, .string x4, .int .i64 x5, .slice A 3 cap])
    have KA := Lib.hid (hk.below (bel1 w (.cells #[.int .i64 x1, .int .i64 x2, .int .i64 x3, .string x4, .int .i64 x5, .slice A 3 cap] 25)))
    have HQP := Lib.hid qp
    have HQQ := Lib.hid qq
    clear hs0 hx hx2 hp hk hok hK hks qp qq
    go_enter Tryz.func28, Tryz.ntmps28
    have C := Lib.hid (P0.out.texts (w.heap.size + 1) (by simp) [⟨#[100, 101, 102, 32]⟩, x4] 2 #[.string ⟨#[100, 101, 102, 32]⟩, .string x4] ([100, 101, 102, 32] ++ x4.data.toList) rfl (by simp [cat]) rfl (by simp) hl (by simp <;> omega))
    have rc := R0.out.cell
    go_wp2_with fail
    refine C.out.mono ?_
    rintro e w1 ⟨rfl, h1⟩
    have P1 := Lib.hid h1
    have R1 := Lib.hid (P1.out.row R0.out (by omega) (by decide))
    clear h1 C rc
    have C := Lib.hid ((function_w k0 TT TB B b d _ _ x1 x2 x3 x4 x5 p t q pk tk qk A cap P1.out.p P1.out.size.1 (P1.out.kv KA.out) op ot oq HQP.out ut HQQ.out HDD.out hb (fnB (prt d (.cons p pk (.cons t tk (.cons q qk .nil))))) rfl (by rw [List.length_append, Lib.byteCells_length]; simp <;> omega)).mono fun _ _ hw => P1.out.step hw)
    have rc := R1.out.cell
    go_wp2_with fail
    refine C.out.mono ?_
    rintro e w2 ⟨rfl, h1⟩
    have P2 := Lib.hid h1
    have R2 := Lib.hid (P2.out.row R0.out (by omega) (by decide))
    clear h1 C rc
    go_wp2_with fail
    go_end0
    exact (P2.out.cast (by rw [← HX.out]; simp)).doneA hB
end Pg
end Go.Proofs.YtiabkkdeonepgaaGreatDoor
namespace Go.Proofs.YtiabkkdeonepgaaGreatDoor
open Go.RowKit
namespace Pg
open Ps
def itemsB1 (a : Option Nat) (kd : Nat) (x : Bs) : Bs := (if (a = some 3 ∨ (a.isSome ∧ kd = 3)) then [10] else []) ++ x ++ [10]
theorem ib_first (kd : Nat) (x : Bs) : itemsB1 none kd x = [] ++ x ++ [10] := by simp [itemsB1]
theorem ib_yes {a kd : Nat} {x : Bs} (h : a = 3 ∨ kd = 3) : itemsB1 (some a) kd x = [10] ++ x ++ [10] := by
  unfold itemsB1
  rw [if_pos (by rcases h with h | h; exact .inl (by rw [h]); exact .inr ⟨rfl, h⟩)]
theorem ib_no {a kd : Nat} {x : Bs} (h1 : a ≠ 3) (h2 : kd ≠ 3) : itemsB1 (some a) kd x = [] ++ x ++ [10] := by
  unfold itemsB1
  rw [if_neg]
  intro h
  rcases h with h | h
  · injection h with h; exact h1 h
  · exact h2 h.2
set_option maxHeartbeats 8000000 in
theorem file_w (B b : Nat) (bs : List Value) (w : World) (x1 x2 x3 : Nat) (x4 : ByteArray) (x5 : Nat) (k : Fo) (A : Option Addr) (cap : Nat) (hp : Prn B b bs 0 w) (hB : B ≤ w.heap.size)
    (hk : KV w (fun g => g < B) k A cap) (ok : okF k) (hq : ∀ x ∈ k.kinds, x = 2 ∨ x = 3) (bk : Bd 0 k) (hl : bs.length + (fileB k).length ≤ lim) :
    Calls Tryz.prog 14 #[.pointer (some ⟨b, 0, none⟩), .agg #[.int .i64 x1, .int .i64 x2, .int .i64 x3, .string x4, .int .i64 x5, .slice A k.len cap]] w (Wrt B b 0 bs (fileB k) w) := by
  have hbl := hp.lt
  obtain ⟨n0, hn0⟩ : ∃ n0, n0 = k.len := ⟨_, rfl⟩
  have HN := Lib.hid hn0
  have hn1 : n0 ≤ 1000001 := by rw [hn0]; exact bk.ln
  rw [← hn0]
  have P0 := Lib.hid (Pw.start (hp.below (bel1 w (.cells #[.int .i64 x1, .int .i64 x2, .int .i64 x3, .string x4, .int .i64 x5, .slice A n0 cap] 25))) (by simp; omega))
  have R0 := Lib.hid (RowB.new w 25 #[.int .i64 x1, .int .i64 x2, .int .i64 x3, .string x4, .int .i64 x5, .slice A n0 cap])
  have HK := Lib.hid (hk.below (bel1 w (.cells #[.int .i64 x1, .int .i64 x2, .int .i64 x3, .string x4, .int .i64 x5, .slice A n0 cap] 25)))
  have HO := Lib.hid ok
  have HQ := Lib.hid hq
  have HBK := Lib.hid bk
  clear hp hk ok hq bk hn0
  go_enter Tryz.func14, Tryz.ntmps14
  go_wp2_with fail
  go_loopg [4, 10] (n0 + 1) (fun kx s4 s10 wr => ∃ (i a : Nat) (pr : Bs), s4 = .int .i64 a ∧ s10 = .int .i64 i ∧ n0 - i ≤ kx ∧ i ≤ n0 ∧ (i = 0 → a = 2) ∧ Hid (pr ++ itemsB (if i = 0 then none else some a) (prt 0 (k.drop i)) = fileB k) ∧ Hid (Pw B b 0 bs ([] ++ pr) (w.alloc (.cells #[.int .i64 x1, .int .i64 x2, .int .i64 x3, .string x4, .int .i64 x5, .slice A n0 cap] 25)) wr))
  case atStart => exact ⟨0, 2, [], rfl, rfl, by omega, by omega, fun _ => rfl, by unfold Hid; rw [Fo.drop_zero]; rfl, by unfold Hid; rw [List.append_nil]; exact P0.out⟩
  case round =>
    obtain ⟨i, a, pr, rfl, rfl, hkx, hin, ha2, HP, H1⟩ := hrel
    clear P0 R0
    have hsz := H1.out.size
    have hbw := H1.out.p.lt.1
    by_cases hi : i < n0
    · have hil : (i : Int) < (n0 : Int) := by omega
      obtain ⟨h', kk, e⟩ := Fo.drop_cons k i (by rw [← HN.out]; exact hi)
      obtain ⟨g, o, A2, c2, hA, hP, hg, hkk, z0, z1, z2, z3, z4, z5⟩ := KV.nth (H1.out.kv HK.out) e
      obtain ⟨bk2, dk2⟩ := HBK.out.kid e
      have ho := okF.drop i HO.out e
      have hqq := HQ.out _ (kinds_drop i e)
      have hst : itemsB (if i = 0 then none else some a) (prt 0 (k.drop i)) = itemsB1 (if i = 0 then none else some a) h'.kind (prN 0 h' kk) ++ itemsB (some h'.kind) (prt 0 (k.drop (i + 1))) := by rw [e]; unfold itemsB1; rfl
      obtain ⟨j, hj⟩ : ∃ j, j = i + 1 := ⟨_, rfl⟩
      have e1 : IntKind.i64.wrap ((i : Int) + 1) = (j : Int) := by rw [IntKind.wrap_i64]; omega
      have hpr := HP.out
      rw [hst, ← hj] at hpr
      have hpl := Nat.le_of_eq (congrArg List.length hpr)
      have HPR := Lib.hid hpr
      obtain ⟨y1, y2, y3, y4, y5⟩ := h'
      have PA := Lib.hid (H1.out.alloc #[.int .i64 y1, .int .i64 y2, .int .i64 y3, .string y4, .int .i64 y5, .slice A2 kk.len c2] 25)
      have RA := Lib.hid (RowB.new wr 25 #[.int .i64 y1, .int .i64 y2, .int .i64 y3, .string y4, .int .i64 y5, .slice A2 kk.len c2])
      have KA := Lib.hid (hkk.below (bel1 wr (.cells #[.int .i64 y1, .int .i64 y2, .int .i64 y3, .string y4, .int .i64 y5, .slice A2 kk.len c2] 25)))
      subst hA
      clear hkk hst hpr HP e
      dsimp only at hqq HPR
      by_cases hz : i = 0
      · have hpl2 := HPR.out
        rw [if_pos hz, ib_first] at hpl2
        have hpl2 := Nat.le_of_eq (congrArg List.length hpl2)
        simp at hpl2
        have HZ := Lib.hid hz
        have hg1 : ¬ (i : Int) > 0 := by omega
        clear hz hpl ha2
        have P2 := PA
        have R2 := RA
        have KK2 := KA
        have C := Lib.hid (item_w B b 0 _ ⟨y1, y2, y3, y4, y5⟩ kk A2 c2 (wr.alloc (.cells #[.int .i64 y1, .int .i64 y2, .int .i64 y3, .string y4, .int .i64 y5, .slice A2 kk.len c2] 25)) P2.out.p P2.out.size.1 KK2.out ho hqq bk2 (by rw [List.length_append, Lib.byteCells_length]; simp <;> omega))
        go_wp2_with fail
        refine C.out.mono ?_
        rintro e w3 hw
        obtain ⟨rfl, h3⟩ := P2.out.step hw
        have P3 := Lib.hid h3
        have R3 := Lib.hid (row_others R2.out hw.2.2.2 (by omega) (by decide))
        have CL := Lib.hid (line_any B b 0 _ _ P3.out.p (by omega) (by rw [List.length_append, Lib.byteCells_length]; simp [lineB] <;> omega) P3.out.size.1)
        clear hw h3 C 
        go_wp2_with fail
        refine CL.out.mono ?_
        rintro e w4 hw
        obtain ⟨rfl, h4⟩ := P3.out.step hw
        have r4 := (row_others R3.out hw.2.2.2 (by omega) (by decide)).cell
        have P4 := Lib.hid (h4.cast (Y := [] ++ (pr ++ ([] ++ prN 0 ⟨y1, y2, y3, y4, y5⟩ kk ++ [10]))) (by simp [lineB]))
        have HP2 : Hid ((pr ++ ([] ++ prN 0 ⟨y1, y2, y3, y4, y5⟩ kk ++ [10])) ++ itemsB (some y1) (prt 0 (k.drop j)) = fileB k) := by
          unfold Hid
          rw [← HPR.out, if_pos HZ.out, ib_first]
          simp
        clear hw h4 CL
        go_wp2_with fail
        go_roundg (n0 - j)
        case measure => omega
        case rel => exact ⟨j, y1, pr ++ ([] ++ prN 0 ⟨y1, y2, y3, y4, y5⟩ kk ++ [10]), rfl, by rw [hj]; go_num, by omega, by omega, fun h => absurd h (by omega), by unfold Hid; rw [if_neg (by omega)]; exact HP2.out, P4.out⟩
      · have HZ := Lib.hid hz
        have hg1 : (i : Int) > 0 := by omega
        by_cases ha3 : a = 3
        · have hpl2 := HPR.out
          rw [if_neg hz, ib_yes (.inl ha3)] at hpl2
          have hpl2 := Nat.le_of_eq (congrArg List.length hpl2)
          simp at hpl2
          have HA3 := Lib.hid ha3
          have g2 : ((a : Int) == 3) = true := by rw [beq_iff_eq]; omega
          clear hz hpl ha2 ha3
          have CL0 := Lib.hid (line_any B b 0 _ _ PA.out.p (by omega) (by rw [List.length_append, Lib.byteCells_length]; simp [lineB] <;> omega) PA.out.size.1)
          go_wp2_with fail
          refine CL0.out.mono ?_
          rintro e w2 hw
          obtain ⟨rfl, h2⟩ := PA.out.step hw
          have P2 := Lib.hid h2
          have R2 := Lib.hid (row_others RA.out hw.2.2.2 (by omega) (by decide))
          have r2 := R2.out.cell
          have KK2 : Hid (KV w2 (fun g => g < B) kk A2 c2) := KA.out.keep hw.2.2.1.size (fun g hg _ => ⟨hw.2.2.1.block g hg, hg⟩)
          clear hw h2 CL0 z0 z1 z2 z3 z4 z5
          have C := Lib.hid (item_w B b 0 _ ⟨y1, y2, y3, y4, y5⟩ kk A2 c2 w2 P2.out.p P2.out.size.1 KK2.out ho hqq bk2 (by rw [List.length_append, Lib.byteCells_length]; simp [lineB] <;> omega))
          go_wp2_with fail
          refine C.out.mono ?_
          rintro e w3 hw
          obtain ⟨rfl, h3⟩ := P2.out.step hw
          have P3 := Lib.hid h3
          have R3 := Lib.hid (row_others R2.out hw.2.2.2 (by omega) (by decide))
          have CL := Lib.hid (line_any B b 0 _ _ P3.out.p (by omega) (by rw [List.length_append, Lib.byteCells_length]; simp [lineB] <;> omega) P3.out.size.1)
          clear hw h3 C r2
          go_wp2_with fail
          refine CL.out.mono ?_
          rintro e w4 hw
          obtain ⟨rfl, h4⟩ := P3.out.step hw
          have r4 := (row_others R3.out hw.2.2.2 (by omega) (by decide)).cell
          have P4 := Lib.hid (h4.cast (Y := [] ++ (pr ++ ([10] ++ prN 0 ⟨y1, y2, y3, y4, y5⟩ kk ++ [10]))) (by simp [lineB]))
          have HP2 : Hid ((pr ++ ([10] ++ prN 0 ⟨y1, y2, y3, y4, y5⟩ kk ++ [10])) ++ itemsB (some y1) (prt 0 (k.drop j)) = fileB k) := by
            unfold Hid
            rw [← HPR.out, if_neg HZ.out, ib_yes (.inl HA3.out)]
            simp
          clear hw h4 CL
          go_wp2_with fail
          go_roundg (n0 - j)
          case measure => omega
          case rel => exact ⟨j, y1, pr ++ ([10] ++ prN 0 ⟨y1, y2, y3, y4, y5⟩ kk ++ [10]), rfl, by rw [hj]; go_num, by omega, by omega, fun h => absurd h (by omega), by unfold Hid; rw [if_neg (by omega)]; exact HP2.out, P4.out⟩
        · have g2 : ((a : Int) == 3) = false := by rw [beq_eq_false_iff_ne]; omega
          have HA3 := Lib.hid ha3
          by_cases hy3 : y1 = 3
          · have hpl2 := HPR.out
            rw [if_neg hz, ib_yes (.inr hy3)] at hpl2
            have hpl2 := Nat.le_of_eq (congrArg List.length hpl2)
            simp at hpl2
            have HY3 := Lib.hid hy3
            have g3 : ((y1 : Int) == 3) = true := by rw [beq_iff_eq]; omega
            clear hz hpl ha2 ha3 hy3
            have CL0 := Lib.hid (line_any B b 0 _ _ PA.out.p (by omega) (by rw [List.length_append, Lib.byteCells_length]; simp [lineB] <;> omega) PA.out.size.1)
            go_wp2_with fail
            refine CL0.out.mono ?_
            rintro e w2 hw
            obtain ⟨rfl, h2⟩ := PA.out.step hw
            have P2 := Lib.hid h2
            have R2 := Lib.hid (row_others RA.out hw.2.2.2 (by omega) (by decide))
            have r2 := R2.out.cell
            have KK2 : Hid (KV w2 (fun g => g < B) kk A2 c2) := KA.out.keep hw.2.2.1.size (fun g hg _ => ⟨hw.2.2.1.block g hg, hg⟩)
            clear hw h2 CL0 z0 z1 z2 z3 z4 z5
            have C := Lib.hid (item_w B b 0 _ ⟨y1, y2, y3, y4, y5⟩ kk A2 c2 w2 P2.out.p P2.out.size.1 KK2.out ho hqq bk2 (by rw [List.length_append, Lib.byteCells_length]; simp [lineB] <;> omega))
            go_wp2_with fail
            refine C.out.mono ?_
            rintro e w3 hw
            obtain ⟨rfl, h3⟩ := P2.out.step hw
            have P3 := Lib.hid h3
            have R3 := Lib.hid (row_others R2.out hw.2.2.2 (by omega) (by decide))
            have CL := Lib.hid (line_any B b 0 _ _ P3.out.p (by omega) (by rw [List.length_append, Lib.byteCells_length]; simp [lineB] <;> omega) P3.out.size.1)
            clear hw h3 C r2
            go_wp2_with fail
            refine CL.out.mono ?_
            rintro e w4 hw
            obtain ⟨rfl, h4⟩ := P3.out.step hw
            have r4 := (row_others R3.out hw.2.2.2 (by omega) (by decide)).cell
            have P4 := Lib.hid (h4.cast (Y := [] ++ (pr ++ ([10] ++ prN 0 ⟨y1, y2, y3, y4, y5⟩ kk ++ [10]))) (by simp [lineB]))
            have HP2 : Hid ((pr ++ ([10] ++ prN 0 ⟨y1, y2, y3, y4, y5⟩ kk ++ [10])) ++ itemsB (some y1) (prt 0 (k.drop j)) = fileB k) := by
              unfold Hid
              rw [← HPR.out, if_neg HZ.out, ib_yes (.inr HY3.out)]
              simp
            clear hw h4 CL
            go_wp2_with fail
            go_roundg (n0 - j)
            case measure => omega
            case rel => exact ⟨j, y1, pr ++ ([10] ++ prN 0 ⟨y1, y2, y3, y4, y5⟩ kk ++ [10]), rfl, by rw [hj]; go_num, by omega, by omega, fun h => absurd h (by omega), by unfold Hid; rw [if_neg (by omega)]; exact HP2.out, P4.out⟩
          · have hpl2 := HPR.out
            rw [if_neg hz, ib_no ha3 hy3] at hpl2
            have hpl2 := Nat.le_of_eq (congrArg List.length hpl2)
            simp at hpl2
            have HY3 := Lib.hid hy3
            have g3 : ((y1 : Int) == 3) = false := by rw [beq_eq_false_iff_ne]; omega
            clear hz hpl ha2 ha3 hy3
            have P2 := PA
            have R2 := RA
            have KK2 := KA
            have C := Lib.hid (item_w B b 0 _ ⟨y1, y2, y3, y4, y5⟩ kk A2 c2 (wr.alloc (.cells #[.int .i64 y1, .int .i64 y2, .int .i64 y3, .string y4, .int .i64 y5, .slice A2 kk.len c2] 25)) P2.out.p P2.out.size.1 KK2.out ho hqq bk2 (by rw [List.length_append, Lib.byteCells_length]; simp <;> omega))
            go_wp2_with fail
            refine C.out.mono ?_
            rintro e w3 hw
            obtain ⟨rfl, h3⟩ := P2.out.step hw
            have P3 := Lib.hid h3
            have R3 := Lib.hid (row_others R2.out hw.2.2.2 (by omega) (by decide))
            have CL := Lib.hid (line_any B b 0 _ _ P3.out.p (by omega) (by rw [List.length_append, Lib.byteCells_length]; simp [lineB] <;> omega) P3.out.size.1)
            clear hw h3 C 
            go_wp2_with fail
            refine CL.out.mono ?_
            rintro e w4 hw
            obtain ⟨rfl, h4⟩ := P3.out.step hw
            have r4 := (row_others R3.out hw.2.2.2 (by omega) (by decide)).cell
            have P4 := Lib.hid (h4.cast (Y := [] ++ (pr ++ ([] ++ prN 0 ⟨y1, y2, y3, y4, y5⟩ kk ++ [10]))) (by simp [lineB]))
            have HP2 : Hid ((pr ++ ([] ++ prN 0 ⟨y1, y2, y3, y4, y5⟩ kk ++ [10])) ++ itemsB (some y1) (prt 0 (k.drop j)) = fileB k) := by
              unfold Hid
              rw [← HPR.out, if_neg HZ.out, ib_no HA3.out HY3.out]
              simp
            clear hw h4 CL
            go_wp2_with fail
            go_roundg (n0 - j)
            case measure => omega
            case rel => exact ⟨j, y1, pr ++ ([] ++ prN 0 ⟨y1, y2, y3, y4, y5⟩ kk ++ [10]), rfl, by rw [hj]; go_num, by omega, by omega, fun h => absurd h (by omega), by unfold Hid; rw [if_neg (by omega)]; exact HP2.out, P4.out⟩
    · have hil : ¬ (i : Int) < (n0 : Int) := by omega
      have hpr := HP.out
      rw [Fo.drop_end k i (by rw [← HN.out]; omega)] at hpr
      have hpr2 : pr = fileB k := by rw [← hpr]; simp [prt, itemsB]
      subst hpr2
      clear hpr HP
      go_wp2_with fail
      go_end0
      exact (H1.out.cast (by simp)).doneA hB
end Pg
end Go.Proofs.YtiabkkdeonepgaaGreatDoor
