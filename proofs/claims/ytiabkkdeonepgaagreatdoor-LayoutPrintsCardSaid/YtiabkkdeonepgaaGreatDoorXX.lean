import Derived.Test.YtiabkkdeonepgaaGreatDoorXU
import Derived.Test.YtiabkkdeonepgaaGreatDoorXE
import Derived.Lib.QuietBelow
set_option maxRecDepth 100000
set_option maxHeartbeats 8000000
namespace Go.Proofs.YtiabkkdeonepgaaGreatDoor
open Go.RowKit
namespace Pg
open Ps
theorem istype_any (w : World) (x1 x2 x3 : Nat) (x4 : ByteArray) (x5 : Nat) (A : Option Addr) (n cap : Nat) (h : tyK x1) :
    Calls Tryz.prog 54 #[.agg #[.int .i64 x1, .int .i64 x2, .int .i64 x3, .string x4, .int .i64 x5, .slice A n cap]] w fun e w' => e = .returned (.bool true) ∧ Below w.heap.size w w' := by
  have hc : x1 = 29 ∨ x1 = 30 ∨ x1 = 31 ∨ x1 = 32 ∨ x1 = 34 := by obtain ⟨h1, h2, h3⟩ := h; omega
  clear h
  have R0 := Lib.hid (RowB.new w 25 #[.int .i64 x1, .int .i64 x2, .int .i64 x3, .string x4, .int .i64 x5, .slice A n cap])
  have rc := R0.out.cell
  rcases hc with rfl | rfl | rfl | rfl | rfl <;> (go_enter Tryz.func54, Tryz.ntmps54; go_wp2_with fail; (first | go_ret | go_ret2); exact ⟨rfl, bel1 w _⟩)
theorem isexpr_any (w : World) (x1 x2 x3 : Nat) (x4 : ByteArray) (x5 : Nat) (A : Option Addr) (n cap : Nat) (h : exK x1) :
    Calls Tryz.prog 78 #[.agg #[.int .i64 x1, .int .i64 x2, .int .i64 x3, .string x4, .int .i64 x5, .slice A n cap]] w fun e w' => e = .returned (.bool true) ∧ Below w.heap.size w w' := by
  have hc : x1 = 14 ∨ x1 = 15 ∨ x1 = 16 ∨ x1 = 17 ∨ x1 = 18 ∨ x1 = 19 ∨ x1 = 20 ∨ x1 = 21 ∨ x1 = 22 ∨ x1 = 23 ∨ x1 = 24 ∨ x1 = 25 ∨ x1 = 26 ∨ x1 = 28 := by obtain ⟨h1, h2, h3⟩ := h; omega
  clear h
  have R0 := Lib.hid (RowB.new w 25 #[.int .i64 x1, .int .i64 x2, .int .i64 x3, .string x4, .int .i64 x5, .slice A n cap])
  have rc := R0.out.cell
  rcases hc with rfl | rfl | rfl | rfl | rfl | rfl | rfl | rfl | rfl | rfl | rfl | rfl | rfl | rfl <;> (go_enter Tryz.func78, Tryz.ntmps78; go_wp2_with fail; (first | go_ret | go_ret2); exact ⟨rfl, bel1 w _⟩)
theorem height_any (w : World) (x1 x2 x3 : Nat) (x4 : ByteArray) (x5 : Nat) (A : Option Addr) (n cap : Nat) (h : exK x1) :
    Calls Tryz.prog 79 #[.agg #[.int .i64 x1, .int .i64 x2, .int .i64 x3, .string x4, .int .i64 x5, .slice A n cap]] w fun e w' => e = .returned (.int .i64 (hgt x1)) ∧ Below w.heap.size w w' := by
  have hc : x1 = 14 ∨ x1 = 15 ∨ x1 = 16 ∨ x1 = 17 ∨ x1 = 18 ∨ x1 = 19 ∨ x1 = 20 ∨ x1 = 21 ∨ x1 = 22 ∨ x1 = 23 ∨ x1 = 24 ∨ x1 = 25 ∨ x1 = 26 ∨ x1 = 28 := by obtain ⟨h1, h2, h3⟩ := h; omega
  clear h
  have R0 := Lib.hid (RowB.new w 25 #[.int .i64 x1, .int .i64 x2, .int .i64 x3, .string x4, .int .i64 x5, .slice A n cap])
  have rc := R0.out.cell
  rcases hc with rfl | rfl | rfl | rfl | rfl | rfl | rfl | rfl | rfl | rfl | rfl | rfl | rfl | rfl <;> (go_enter Tryz.func79, Tryz.ntmps79; go_wp2_with fail; (first | go_ret | go_ret2); exact ⟨rfl, bel1 w _⟩)
end Pg
end Go.Proofs.YtiabkkdeonepgaaGreatDoor
namespace Go.Proofs.YtiabkkdeonepgaaGreatDoor
open Go.RowKit
namespace Pg
open Ps
def PartV (B : Nat) (v : Value) (Q : Hd → Fo → Prop) (b : Bool) (w : World) : Prop :=
  ∃ F caps, v = .func (.func F) #[] caps ∧ (∀ v w, (callFunc F (#[v] ++ caps)).run Tryz.prog w = .ok (.enter F (#[v] ++ caps)) w) ∧
    ∀ w' h k A cap, Below w.heap.size w w' → KV w' (fun g => g < B) k A cap → Q h k → Calls Tryz.prog F (#[nvv h A k.len cap] ++ caps) w' fun e w2 => e = .returned (.bool b) ∧ Below w'.heap.size w' w2
theorem PartV.below {B : Nat} {v : Value} {Q : Hd → Fo → Prop} {b : Bool} {w w' : World} (h : PartV B v Q b w) (hb : Below w.heap.size w w') : PartV B v Q b w' := by
  obtain ⟨F, caps, h1, h2, h3⟩ := h
  exact ⟨F, caps, h1, h2, fun w2 h k A cap hb2 => h3 w2 h k A cap (hb.trans (hb2.mono hb.size))⟩
theorem PartV.mono {B : Nat} {v : Value} {Q R : Hd → Fo → Prop} {b : Bool} {w : World} (h : PartV B v Q b w) (hq : ∀ h k, R h k → Q h k) : PartV B v R b w := by
  obtain ⟨F, caps, h1, h2, h3⟩ := h
  exact ⟨F, caps, h1, h2, fun w2 h k A cap hb2 hk hr => h3 w2 h k A cap hb2 hk (hq _ _ hr)⟩
theorem istype_part (B : Nat) (w : World) : PartV B (.func (.func 54) #[] #[]) (fun h _ => tyK h.kind) true w :=
  ⟨54, #[], rfl, fun _ _ => rfl, fun w' h k A cap _ _ hq => istype_any w' h.kind h.fro h.til h.word h.at_ A k.len cap hq⟩
theorem index_any (w : World) (ks : List Nat) (m G x : Nat) (row : RowB w G 3 (ks.map fun (k : Nat) => Value.int .i64 (k : Int)).toArray) (hx : x ∈ ks) (hm : m = ks.length) (hl : m ≤ 100) :
    Calls Tryz.prog 107 #[.slice (some ⟨G, 0, none⟩) m m, .int .i64 x] w fun e w' => ∃ j : Nat, e = .returned (.int .i64 j) ∧ Below w.heap.size w w' := by
  have HM := Lib.hid hm
  have HR := Lib.hid row
  have HX : Hid (∃ j, 0 ≤ j ∧ ks[j]? = some x) := by
    obtain ⟨j, hj⟩ := List.mem_iff_getElem?.mp hx
    exact ⟨j, Nat.zero_le j, hj⟩
  clear hm row hx
  go_enter Tryz.func107, Tryz.ntmps107
  go_wp2_with fail
  go_loopg [8] (m + 1) (fun kx s8 wr => ∃ i : Nat, s8 = .int .i64 i ∧ m - i ≤ kx ∧ i ≤ m ∧ Hid (∃ j, i ≤ j ∧ ks[j]? = some x) ∧ Hid (Below w.heap.size w wr))
  case atStart => exact ⟨0, rfl, by omega, by omega, HX, Below.refl _ _⟩
  case round =>
    obtain ⟨i, rfl, hkx, hin, HJ, HB⟩ := hrel
    have row2 := Lib.hid (HR.out.below HB.out HR.out.lt)
    have rc := row2.out.cell
    obtain ⟨hi, y, hy⟩ : i < m ∧ ∃ y, ks[i]? = some y := by
      obtain ⟨j, h1, h2⟩ := HJ.out
      have := (List.getElem?_eq_some_iff.mp h2).1
      have hi : i < ks.length := by omega
      exact ⟨by rw [HM.out]; omega, _, List.getElem?_eq_getElem hi⟩
    have ci : wr.cell? ⟨G, i, none⟩ = some (.int .i64 y) := by rw [rc]; simp [hy]
    have hil : (i : Int) < (m : Int) := by omega
    clear rc
    by_cases hxy : x = y
    · subst hxy
      go_wp2_with fail
      (first | go_ret | go_ret2)
      exact ⟨i, rfl, HB.out⟩
    · have hne : ((x : Int) == (y : Int)) = false := by rw [beq_eq_false_iff_ne]; omega
      have HJ2 : Hid (∃ j, i + 1 ≤ j ∧ ks[j]? = some x) := by
        obtain ⟨j, h1, h2⟩ := HJ.out
        refine ⟨j, ?_, h2⟩
        rcases Nat.eq_or_lt_of_le h1 with e | e
        · rw [e, h2] at hy
          injection hy with hy
          exact absurd hy hxy
        · exact e
      go_wp2_with fail
      go_roundg (m - (i + 1))
      case measure => omega
      case rel => exact ⟨i + 1, by first | rfl | rw [show ((i + 1 : Nat) : Int) = (i : Int) + 1 by omega], by omega, by omega, HJ2, HB.out⟩
theorem contains_any (w : World) (ks : List Nat) (m G x : Nat) (row : RowB w G 3 (ks.map fun (k : Nat) => Value.int .i64 (k : Int)).toArray) (hx : x ∈ ks) (hm : m = ks.length) (hl : m ≤ 100) :
    Calls Tryz.prog 81 #[.slice (some ⟨G, 0, none⟩) m m, .int .i64 x] w fun e w' => e = .returned (.bool true) ∧ Below w.heap.size w w' := by
  have C := Lib.hid (index_any w ks m G x row hx hm hl)
  clear row hx hm
  go_enter Tryz.func81, Tryz.ntmps81
  go_wp2_with fail
  refine C.out.mono ?_
  rintro e w1 ⟨j, rfl, h1⟩
  have HB := Lib.hid h1
  have hj : (0 : Int) ≤ (j : Int) := by omega
  clear h1 C
  go_wp2_with fail
  (first | go_ret | go_ret2)
  exact ⟨rfl, HB.out⟩
theorem is1_any (w : World) (ks : List Nat) (m G H : Nat) (x1 x2 x3 : Nat) (x4 : ByteArray) (x5 : Nat) (A : Option Addr) (n cap : Nat) (row : RowB w G 3 (ks.map fun (k : Nat) => Value.int .i64 (k : Int)).toArray) (bx : RowB w H 112 #[.slice (some ⟨G, 0, none⟩) m m]) (hx : x1 ∈ ks) (hm : m = ks.length) (hl : m ≤ 100) :
    Calls Tryz.prog 80 (#[.agg #[.int .i64 x1, .int .i64 x2, .int .i64 x3, .string x4, .int .i64 x5, .slice A n cap]] ++ #[.pointer (some ⟨H, 0, none⟩)]) w fun e w' => e = .returned (.bool true) ∧ Below w.heap.size w w' := by
  have C := Lib.hid (contains_any (w.alloc (.cells #[.int .i64 x1, .int .i64 x2, .int .i64 x3, .string x4, .int .i64 x5, .slice A n cap] 25)) ks m G x1 (row.alloc _) hx hm hl)
  have R0 := Lib.hid (RowB.new w 25 #[.int .i64 x1, .int .i64 x2, .int .i64 x3, .string x4, .int .i64 x5, .slice A n cap])
  have rc := R0.out.cell
  have R1 := Lib.hid (bx.alloc (.cells #[.int .i64 x1, .int .i64 x2, .int .i64 x3, .string x4, .int .i64 x5, .slice A n cap] 25))
  have rd := R1.out.cell
  clear row bx hx hm
  go_enter Tryz.func80, Tryz.ntmps80
  go_wp2_with fail
  refine C.out.mono ?_
  rintro e w1 ⟨rfl, h1⟩
  have HB := Lib.hid h1
  clear h1 C rc rd
  go_wp2_with fail
  (first | go_ret | go_ret2)
  exact ⟨rfl, (bel1 w _).trans (HB.out.mono (by simp))⟩
theorem is_any (B : Nat) (w : World) (ks : List Nat) (m G : Nat) (row : RowB w G 3 (ks.map fun (k : Nat) => Value.int .i64 (k : Int)).toArray) (hm : m = ks.length) (hl : m ≤ 100) :
    Calls Tryz.prog 51 #[.slice (some ⟨G, 0, none⟩) m m] w fun e w' => ∃ v, e = .returned v ∧ PartV B v (fun h _ => h.kind ∈ ks) true w' ∧ Below w.heap.size w w' := by
  have HM := Lib.hid hm
  have HR := Lib.hid row
  clear hm row
  go_enter Tryz.func51, Tryz.ntmps51
  go_wp2_with fail
  (first | go_ret | go_ret2)
  refine ⟨_, rfl, ⟨80, _, rfl, fun _ _ => rfl, fun w' h k A cap hb hk hq => ?_⟩, bel1 w _⟩
  have r1 := (HR.out.alloc (.cells #[.slice (some ⟨G, 0, none⟩) m m] 112))
  exact is1_any w' ks m G w.heap.size h.kind h.fro h.til h.word h.at_ A k.len cap (r1.below hb r1.lt) ((RowB.new w 112 _).below hb (RowB.new w 112 #[.slice (some ⟨G, 0, none⟩) m m]).lt) hq HM.out hl
theorem is_new (B : Nat) (w : World) (ks : List Nat) (m H : Nat) (hH : w.heap.size = H) (cs : Array Value) (hc : cs = (ks.map fun (k : Nat) => Value.int .i64 (k : Int)).toArray) (hm : m = ks.length) (hl : m ≤ 100) :
    Calls Tryz.prog 51 #[.slice (some ⟨H, 0, none⟩) m m] (w.alloc (.cells cs 3)) fun e w' => ∃ v, e = .returned v ∧ PartV B v (fun h _ => h.kind ∈ ks) true w' ∧ Below w.heap.size w w' := by
  subst hH hc
  refine (is_any B (w.alloc (.cells _ 3)) ks m w.heap.size (RowB.new w 3 _) hm hl).mono ?_
  rintro e w' ⟨v, h1, h2, h3⟩
  exact ⟨v, h1, h2, (bel1 w _).trans (h3.mono (by simp))⟩
end Pg
end Go.Proofs.YtiabkkdeonepgaaGreatDoor
namespace Go.Proofs.YtiabkkdeonepgaaGreatDoor
open Go.RowKit
namespace Pg
open Ps
theorem upto1_any (w : World) (m : Nat) (mi : Int) (H : Nat) (x1 x2 x3 : Nat) (x4 : ByteArray) (x5 : Nat) (A : Option Addr) (n cap : Nat) (bx : RowB w H 3 #[.int .i64 mi]) (hm : mi = (m : Int)) (hu : up m x1) :
    Calls Tryz.prog 77 (#[.agg #[.int .i64 x1, .int .i64 x2, .int .i64 x3, .string x4, .int .i64 x5, .slice A n cap]] ++ #[.pointer (some ⟨H, 0, none⟩)]) w fun e w' => e = .returned (.bool true) ∧ Below w.heap.size w w' := by
  have C1 : Hid (∀ w', Calls Tryz.prog 78 #[.agg #[.int .i64 x1, .int .i64 x2, .int .i64 x3, .string x4, .int .i64 x5, .slice A n cap]] w' fun e w2 => e = .returned (.bool true) ∧ Below w'.heap.size w' w2) := fun w' => isexpr_any w' x1 x2 x3 x4 x5 A n cap hu.1
  have C2 : Hid (∀ w', Calls Tryz.prog 79 #[.agg #[.int .i64 x1, .int .i64 x2, .int .i64 x3, .string x4, .int .i64 x5, .slice A n cap]] w' fun e w2 => e = .returned (.int .i64 (hgt x1)) ∧ Below w'.heap.size w' w2) := fun w' => height_any w' x1 x2 x3 x4 x5 A n cap hu.1
  have hd : decide (((hgt x1 : Nat) : Int) ≤ mi) = true := decide_eq_true (by have := hu.2; omega)
  have R0 := Lib.hid (RowB.new w 25 #[.int .i64 x1, .int .i64 x2, .int .i64 x3, .string x4, .int .i64 x5, .slice A n cap])
  have rc := R0.out.cell
  have R1 := Lib.hid (bx.alloc (.cells #[.int .i64 x1, .int .i64 x2, .int .i64 x3, .string x4, .int .i64 x5, .slice A n cap] 25))
  have rd := R1.out.cell
  generalize hgt x1 = hh at *
  clear bx hm hu
  go_enter Tryz.func77, Tryz.ntmps77
  go_wp2_with fail
  obtain ⟨W, hW⟩ : ∃ W, W = w.alloc (.cells #[.int .i64 x1, .int .i64 x2, .int .i64 x3, .string x4, .int .i64 x5, .slice A n cap] 25) := ⟨_, rfl⟩
  have HB : Hid (Below w.heap.size w W) := by unfold Hid; rw [hW]; exact bel1 w _
  rw [← hW] at rc rd
  have z0 := fun d os => cell_regrown (rc 0) d os
  have z1 := fun d os => cell_regrown (rc 1) d os
  have z2 := fun d os => cell_regrown (rc 2) d os
  have z3 := fun d os => cell_regrown (rc 3) d os
  have z4 := fun d os => cell_regrown (rc 4) d os
  have z5 := fun d os => cell_regrown (rc 5) d os
  have zm := fun d os => cell_regrown (rd 0) d os
  rw [← hW]
  clear hW rc rd R0 R1
  refine wp_region_quiet_below (by kernel_rfl) (by kernel_rfl) ?_
  repeat (go_big_quiet_step (first
    | (go_at_call 78; exact Calls.regrown_of (C1.out _))
    | (go_at_call 79; exact Calls.regrown_of (C2.out _))))
  refine wpQuiet_nil ?_
  intro _ hw'
  obtain ⟨⟨dq, osq⟩, hw''⟩ := hw'
  subst hw''
  have HF : Hid (Below w.heap.size w (Go.Sort.grow (redrawn W dq) osq)) := HB.out.trans ((below_regrown W dq osq).mono HB.out.size)
  go_wp2_with fail
  (first | go_ret | go_ret2)
  exact ⟨rfl, HF.out⟩
theorem upto_any (B : Nat) (w : World) (m : Nat) (mi : Int) (hm : mi = (m : Int)) :
    Calls Tryz.prog 50 #[.int .i64 mi] w fun e w' => ∃ v, e = .returned v ∧ PartV B v (fun h _ => up m h.kind) true w' ∧ Below w.heap.size w w' := by
  have HM := Lib.hid hm
  clear hm
  go_enter Tryz.func50, Tryz.ntmps50
  go_wp2_with fail
  (first | go_ret | go_ret2)
  refine ⟨_, rfl, ⟨77, _, rfl, fun _ _ => rfl, fun w' h k A cap hb _ hq => ?_⟩, bel1 w _⟩
  exact upto1_any w' m mi w.heap.size h.kind h.fro h.til h.word h.at_ A k.len cap ((RowB.new w 3 _).below hb (RowB.new w 3 #[.int .i64 mi]).lt) HM.out hq
theorem ornone1_any (B : Nat) (w : World) (v : Value) (Q : Hd → Fo → Prop) (H : Nat) (x1 x2 x3 : Nat) (x4 : ByteArray) (x5 : Nat) (k : Fo) (A : Option Addr) (cap : Nat) (bx : RowB w H 93 #[v]) (hp : PartV B v Q true w) (hk : KV w (fun g => g < B) k A cap) (hq : x1 = 0 ∨ Q ⟨x1, x2, x3, x4, x5⟩ k) :
    Calls Tryz.prog 82 (#[.agg #[.int .i64 x1, .int .i64 x2, .int .i64 x3, .string x4, .int .i64 x5, .slice A k.len cap]] ++ #[.pointer (some ⟨H, 0, none⟩)]) w fun e w' => e = .returned (.bool true) ∧ Below w.heap.size w w' := by
  have R0 := Lib.hid (RowB.new w 25 #[.int .i64 x1, .int .i64 x2, .int .i64 x3, .string x4, .int .i64 x5, .slice A k.len cap])
  have rc := R0.out.cell
  have R1 := Lib.hid (bx.alloc (.cells #[.int .i64 x1, .int .i64 x2, .int .i64 x3, .string x4, .int .i64 x5, .slice A k.len cap] 25))
  have rd := R1.out.cell
  obtain ⟨F, caps, rfl, eF, h3⟩ := hp
  by_cases hz : x1 = 0
  · have dk : ((x1 : Int) == 0) = true := by rw [hz]; rfl
    clear hz bx h3 hk hq
    go_enter Tryz.func82, Tryz.ntmps82
    go_wp2_with fail
    (first | go_ret | go_ret2)
    exact ⟨rfl, bel1 w _⟩
  · have dk : ((x1 : Int) == 0) = false := by rw [beq_eq_false_iff_ne]; omega
    have C := Lib.hid (h3 (w.alloc (.cells #[.int .i64 x1, .int .i64 x2, .int .i64 x3, .string x4, .int .i64 x5, .slice A k.len cap] 25)) ⟨x1, x2, x3, x4, x5⟩ k A cap (bel1 w _) (hk.below (bel1 w _)) (hq.resolve_left hz))
    have eV := eF (nvv ⟨x1, x2, x3, x4, x5⟩ A k.len cap)
    clear hz bx h3 hk hq
    go_enter Tryz.func82, Tryz.ntmps82
    go_wp2_with fail
    refine C.out.mono ?_
    rintro e w1 ⟨rfl, h1⟩
    have HB := Lib.hid h1
    clear h1 C rc rd
    go_wp2_with fail
    (first | go_ret | go_ret2)
    exact ⟨rfl, (bel1 w _).trans (HB.out.mono (by simp))⟩
theorem ornone_any (B : Nat) (w : World) (v : Value) (Q : Hd → Fo → Prop) (hp : PartV B v Q true w) :
    Calls Tryz.prog 53 #[v] w fun e w' => ∃ u, e = .returned u ∧ PartV B u (fun h k => h.kind = 0 ∨ Q h k) true w' ∧ Below w.heap.size w w' := by
  have HP := Lib.hid hp
  obtain ⟨F, caps, rfl, eF, h3⟩ := hp
  clear h3 eF
  go_enter Tryz.func53, Tryz.ntmps53
  go_wp2_with fail
  (first | go_ret | go_ret2)
  refine ⟨_, rfl, ⟨82, _, rfl, fun _ _ => rfl, fun w' h k A cap hb hk hq => ?_⟩, bel1 w _⟩
  exact ornone1_any B w' (.func (.func F) #[] caps) Q w.heap.size h.kind h.fro h.til h.word h.at_ k A cap ((RowB.new w 93 _).below hb (RowB.new w 93 #[.func (.func F) #[] caps]).lt) ((HP.out.below (bel1 w _)).below hb) hk hq
end Pg
end Go.Proofs.YtiabkkdeonepgaaGreatDoor
namespace Go.Proofs.YtiabkkdeonepgaaGreatDoor
open Go.RowKit
namespace Pg
open Ps
theorem indexf_any (B : Nat) (w : World) (v : Value) (Q : Hd → Fo → Prop) (k : Fo) (A : Option Addr) (cap : Nat) (hp : PartV B v Q false w) (hk : KV w (fun g => g < B) k A cap) (hq : ∀ i h kk r, k.drop i = .cons h kk r → Q h kk) (hl : k.len ≤ 1000001) :
    Calls Tryz.prog 83 #[.slice A k.len cap, v] w fun e w' => e = .returned (.int .i64 (-1)) ∧ Below w.heap.size w w' := by
  obtain ⟨F, caps, rfl, eF, h3⟩ := hp
  have HK := Lib.hid hk
  have HP := Lib.hid h3
  have HQ := Lib.hid hq
  obtain ⟨n0, hn0⟩ : ∃ n0, n0 = k.len := ⟨_, rfl⟩
  have HN := Lib.hid hn0
  have hn1 : n0 ≤ 1000001 := by rw [hn0]; exact hl
  rw [← hn0]
  clear hk h3 hq hn0 hl
  go_enter Tryz.func83, Tryz.ntmps83
  go_wp2_with fail
  go_loopg [8] (n0 + 1) (fun kx s8 wr => ∃ i : Nat, s8 = .int .i64 i ∧ n0 - i ≤ kx ∧ i ≤ n0 ∧ Hid (Below w.heap.size w wr))
  case atStart => exact ⟨0, rfl, by omega, by omega, Below.refl _ _⟩
  case round =>
    obtain ⟨i, rfl, hkx, hin, HB⟩ := hrel
    by_cases hi : i < n0
    · have hil : (i : Int) < (n0 : Int) := by omega
      obtain ⟨h', kk, e⟩ := Fo.drop_cons k i (by rw [← HN.out]; exact hi)
      obtain ⟨g, o, A2, c2, hA, hP, hg, hkk, z0, z1, z2, z3, z4, z5⟩ := KV.nth (HK.out.below HB.out) e
      obtain ⟨j, hj⟩ : ∃ j, j = i + 1 := ⟨_, rfl⟩
      have C := Lib.hid (HP.out wr h' kk A2 c2 HB.out hkk (HQ.out _ _ _ _ e))
      obtain ⟨y1, y2, y3, y4, y5⟩ := h'
      have eV := eF (nvv ⟨y1, y2, y3, y4, y5⟩ A2 kk.len c2)
      subst hA
      clear hkk e
      go_wp2_with fail
      refine C.out.mono ?_
      rintro e w2 ⟨rfl, h2⟩
      have HB2 : Hid (Below w.heap.size w w2) := HB.out.trans (h2.mono HB.out.size)
      clear h2 C z0 z1 z2 z3 z4 z5
      go_wp2_with fail
      go_roundg (n0 - j)
      case measure => omega
      case rel => exact ⟨j, by rw [hj]; go_num, by omega, by omega, HB2.out⟩
    · have hil : ¬ (i : Int) < (n0 : Int) := by omega
      go_wp2_with fail
      (first | go_ret | go_ret2)
      exact ⟨rfl, HB.out⟩
theorem containsf_any (B : Nat) (w : World) (v : Value) (Q : Hd → Fo → Prop) (k : Fo) (A : Option Addr) (cap : Nat) (hp : PartV B v Q false w) (hk : KV w (fun g => g < B) k A cap) (hq : ∀ i h kk r, k.drop i = .cons h kk r → Q h kk) (hl : k.len ≤ 1000001) :
    Calls Tryz.prog 55 #[.slice A k.len cap, v] w fun e w' => e = .returned (.bool false) ∧ Below w.heap.size w w' := by
  have C := Lib.hid (indexf_any B w v Q k A cap hp hk hq hl)
  obtain ⟨F, caps, rfl, eF, h3⟩ := hp
  clear h3 hk hq eF hl
  go_enter Tryz.func55, Tryz.ntmps55
  go_wp2_with fail
  refine C.out.mono ?_
  rintro e w1 ⟨rfl, h1⟩
  have HB := Lib.hid h1
  clear h1 C
  go_wp2_with fail
  (first | go_ret | go_ret2)
  exact ⟨rfl, HB.out⟩
theorem each1_any (B : Nat) (w : World) (v : Value) (Q : Hd → Fo → Prop) (H : Nat) (x1 x2 x3 : Nat) (x4 : ByteArray) (x5 : Nat) (k : Fo) (A : Option Addr) (cap : Nat) (bx : RowB w H 93 #[v]) (hp : PartV B v Q true w) (hk : KV w (fun g => g < B) k A cap) (hq : Q ⟨x1, x2, x3, x4, x5⟩ k) :
    Calls Tryz.prog 56 (#[.agg #[.int .i64 x1, .int .i64 x2, .int .i64 x3, .string x4, .int .i64 x5, .slice A k.len cap]] ++ #[.pointer (some ⟨H, 0, none⟩)]) w fun e w' => e = .returned (.bool false) ∧ Below w.heap.size w w' := by
  have R0 := Lib.hid (RowB.new w 25 #[.int .i64 x1, .int .i64 x2, .int .i64 x3, .string x4, .int .i64 x5, .slice A k.len cap])
  have rc := R0.out.cell
  have R1 := Lib.hid (bx.alloc (.cells #[.int .i64 x1, .int .i64 x2, .int .i64 x3, .string x4, .int .i64 x5, .slice A k.len cap] 25))
  have rd := R1.out.cell
  obtain ⟨F, caps, rfl, eF, h3⟩ := hp
  have C := Lib.hid (h3 (w.alloc (.cells #[.int .i64 x1, .int .i64 x2, .int .i64 x3, .string x4, .int .i64 x5, .slice A k.len cap] 25)) ⟨x1, x2, x3, x4, x5⟩ k A cap (bel1 w _) (hk.below (bel1 w _)) hq)
  have eV := eF (nvv ⟨x1, x2, x3, x4, x5⟩ A k.len cap)
  clear bx h3 hk hq
  go_enter Tryz.func56, Tryz.ntmps56
  go_wp2_with fail
  refine C.out.mono ?_
  rintro e w1 ⟨rfl, h1⟩
  have HB := Lib.hid h1
  clear h1 C rc rd
  go_wp2_with fail
  (first | go_ret | go_ret2)
  exact ⟨rfl, (bel1 w _).trans (HB.out.mono (by simp))⟩
theorem each_any (B : Nat) (w : World) (v : Value) (Q : Hd → Fo → Prop) (k : Fo) (A : Option Addr) (cap : Nat) (hp : PartV B v Q true w) (hk : KV w (fun g => g < B) k A cap) (hq : ∀ i h kk r, k.drop i = .cons h kk r → Q h kk) (hl : k.len ≤ 1000001) :
    Calls Tryz.prog 31 #[.slice A k.len cap, v] w fun e w' => e = .returned (.bool true) ∧ Below w.heap.size w w' := by
  have C : Hid (Calls Tryz.prog 55 #[.slice A k.len cap, .func (.func 56) #[] #[.pointer (some ⟨w.heap.size, 0, none⟩)]] (w.alloc (.cells #[v] 93)) fun e w' => e = .returned (.bool false) ∧ Below (w.alloc (.cells #[v] 93)).heap.size (w.alloc (.cells #[v] 93)) w') := by
    refine containsf_any B (w.alloc (.cells #[v] 93)) _ Q k A cap ⟨56, _, rfl, fun _ _ => rfl, fun w' h k A cap hb hk hq => ?_⟩ (hk.below (bel1 w _)) hq hl
    exact each1_any B w' v Q w.heap.size h.kind h.fro h.til h.word h.at_ k A cap ((RowB.new w 93 _).below hb (RowB.new w 93 #[v]).lt) ((hp.below (bel1 w _)).below hb) hk hq
  obtain ⟨F, caps, rfl, eF, h3⟩ := hp
  clear h3 eF hk hq hl
  go_enter Tryz.func31, Tryz.ntmps31
  go_wp2_with fail
  refine C.out.mono ?_
  rintro e w1 ⟨rfl, h1⟩
  have HB := Lib.hid h1
  clear h1 C
  go_wp2_with fail
  (first | go_ret | go_ret2)
  exact ⟨rfl, (bel1 w _).trans (HB.out.mono (by simp))⟩
theorem fit_any (B : Nat) (w : World) (vs : List Value) (m G : Nat) (k : Fo) (A : Option Addr) (cap : Nat) (row : RowB w G 93 vs.toArray) (hm : m = vs.length) (hmk : m = k.len) (hk : KV w (fun g => g < B) k A cap) (hq : ∀ i h kk r, k.drop i = .cons h kk r → ∃ v Q, vs[i]? = some v ∧ PartV B v Q true w ∧ Q h kk) (hl : m ≤ 100) :
    Calls Tryz.prog 52 #[.slice A m cap, .slice (some ⟨G, 0, none⟩) m m] w fun e w' => e = .returned (.bool true) ∧ Below w.heap.size w w' := by
  have HK := Lib.hid hk
  have HR := Lib.hid row
  have HQ := Lib.hid hq
  have HN := Lib.hid hmk
  have HM := Lib.hid hm
  clear hk hq hmk hm row
  go_enter Tryz.func52, Tryz.ntmps52
  go_wp2_with fail
  go_loopg [14] (m + 1) (fun kx s14 wr => ∃ i : Nat, s14 = .int .i64 i ∧ m - i ≤ kx ∧ i ≤ m ∧ Hid (Below w.heap.size w wr))
  case atStart => exact ⟨0, rfl, by omega, by omega, Below.refl _ _⟩
  case round =>
    obtain ⟨i, rfl, hkx, hin, HB⟩ := hrel
    by_cases hi : i < m
    · have hil : (i : Int) < (m : Int) := by omega
      obtain ⟨h', kk, e⟩ := Fo.drop_cons k i (by rw [← HN.out]; exact hi)
      obtain ⟨v, Q, hv, hpv, hqv⟩ := HQ.out _ _ _ _ e
      obtain ⟨F, caps, rfl, eF, h3⟩ := hpv
      obtain ⟨g, o, A2, c2, hA, hP, hg, hkk, z0, z1, z2, z3, z4, z5⟩ := KV.nth (HK.out.below HB.out) e
      obtain ⟨j, hj⟩ : ∃ j, j = i + 1 := ⟨_, rfl⟩
      obtain ⟨y1, y2, y3, y4, y5⟩ := h'
      have CC : Hid (∀ w', Below wr.heap.size wr w' → Calls Tryz.prog F (#[nvv ⟨y1, y2, y3, y4, y5⟩ A2 kk.len c2] ++ caps) w' fun e w2 => e = .returned (.bool true) ∧ Below w'.heap.size w' w2) := fun w' hb => h3 w' _ kk A2 c2 (HB.out.trans (hb.mono HB.out.size)) (hkk.below hb) hqv
      have eV := eF (nvv ⟨y1, y2, y3, y4, y5⟩ A2 kk.len c2)
      have RA := Lib.hid (RowB.new wr 25 #[.int .i64 y1, .int .i64 y2, .int .i64 y3, .string y4, .int .i64 y5, .slice A2 kk.len c2])
      have ra := RA.out.cell
      have RG := Lib.hid ((HR.out.below HB.out HR.out.lt).alloc (.cells #[.int .i64 y1, .int .i64 y2, .int .i64 y3, .string y4, .int .i64 y5, .slice A2 kk.len c2] 25))
      have cg : (wr.alloc (.cells #[.int .i64 y1, .int .i64 y2, .int .i64 y3, .string y4, .int .i64 y5, .slice A2 kk.len c2] 25)).cell? ⟨G, i, none⟩ = some (.func (.func F) #[] caps) := by rw [RG.out.cell]; simp [hv]
      subst hA
      clear hkk e h3 hv
      go_wp2_with fail
      obtain ⟨W, hW⟩ : ∃ W, W = wr.alloc (.cells #[.int .i64 y1, .int .i64 y2, .int .i64 y3, .string y4, .int .i64 y5, .slice A2 kk.len c2] 25) := ⟨_, rfl⟩
      have HW : Hid (Below wr.heap.size wr W) := by unfold Hid; rw [hW]; exact bel1 wr _
      have C : Hid (∀ d os, Calls Tryz.prog F (#[nvv ⟨y1, y2, y3, y4, y5⟩ A2 kk.len c2] ++ caps) (Go.Sort.grow (redrawn W d) os) fun e w2 => e = .returned (.bool true) ∧ Below (Go.Sort.grow (redrawn W d) os).heap.size (Go.Sort.grow (redrawn W d) os) w2) := fun d os => CC.out _ (HW.out.trans ((below_regrown W d os).mono HW.out.size))
      rw [← hW] at ra cg
      have q0 := fun d os => cell_regrown (ra 0) d os
      have q1 := fun d os => cell_regrown (ra 1) d os
      have q2 := fun d os => cell_regrown (ra 2) d os
      have q3 := fun d os => cell_regrown (ra 3) d os
      have q4 := fun d os => cell_regrown (ra 4) d os
      have q5 := fun d os => cell_regrown (ra 5) d os
      have qg := fun d os => cell_regrown cg d os
      rw [← hW]
      clear hW ra cg RA RG CC z0 z1 z2 z3 z4 z5
      refine wp_region_quiet_below (by kernel_rfl) (by kernel_rfl) ?_
      repeat (go_big_quiet_step (exact Calls.regrown_of (C.out _ _)))
      refine wpQuiet_nil ?_
      intro _ hw'
      obtain ⟨⟨dq, osq⟩, hw''⟩ := hw'
      subst hw''
      have HB2 : Hid (Below w.heap.size w (Go.Sort.grow (redrawn W dq) osq)) := HB.out.trans ((HW.out.trans ((below_regrown W dq osq).mono HW.out.size)).mono HB.out.size)
      clear q0 q1 q2 q3 q4 q5 qg C
      go_wp2_with fail
      go_roundg (m - j)
      case measure => omega
      case rel => exact ⟨j, by rw [hj]; go_num, by omega, by omega, HB2.out⟩
    · have hil : ¬ (i : Int) < (m : Int) := by omega
      go_wp2_with fail
      (first | go_ret | go_ret2)
      exact ⟨rfl, HB.out⟩
end Pg
end Go.Proofs.YtiabkkdeonepgaaGreatDoor
namespace Go.Proofs.YtiabkkdeonepgaaGreatDoor
open Go.RowKit
namespace Pg
open Ps
theorem PartV.form {B : Nat} {v : Value} {Q : Hd → Fo → Prop} {b : Bool} {w : World} (h : PartV B v Q b w) : ∃ F caps, v = .func (.func F) #[] caps := by
  obtain ⟨F, caps, h1, _⟩ := h
  exact ⟨F, caps, h1⟩
theorem kinds_at : ∀ {k : Fo} (i : Nat) {h : Hd} {kk r : Fo}, k.drop i = .cons h kk r → k.kinds[i]? = some h.kind
  | .nil, i, h, kk, r, e => by cases i <;> simp [Fo.drop] at e
  | .cons h' k' r', 0, h, kk, r, e => by
    rw [Fo.drop] at e
    injection e with e1 e2 e3
    subst e1
    rfl
  | .cons h' k' r', i + 1, h, kk, r, e => by
    rw [Fo.drop] at e
    exact kinds_at i e
theorem kinds_mem {k : Fo} (i : Nat) {h : Hd} {kk r : Fo} (e : k.drop i = .cons h kk r) : h.kind ∈ k.kinds := List.mem_of_getElem? (kinds_at i e)
theorem kinds_len : ∀ k : Fo, k.kinds.length = k.len
  | .nil => rfl
  | .cons _ _ r => by simp only [Fo.kinds, Fo.len, List.length_cons, kinds_len r]
theorem eachk (B : Nat) (w : World) (v : Value) (q : Nat → Prop) (k : Fo) (A : Option Addr) (cap m : Nat) (hp : PartV B v (fun h _ => q h.kind) true w) (hk : KV w (fun g => g < B) k A cap) (hq : ∀ x ∈ k.kinds, q x) (hl : k.len ≤ 1000001) (hm : m = k.len) :
    Calls Tryz.prog 31 #[.slice A m cap, v] w fun e w' => e = .returned (.bool true) ∧ Below w.heap.size w w' := by
  subst hm
  exact each_any B w v _ k A cap hp hk (fun i h kk r e => hq _ (kinds_mem i e)) hl
theorem fit1 (B : Nat) (w : World) (v0 : Value) (q0 : Nat → Prop) (a0 : Nat) (H : Nat) (hH : w.heap.size = H) (k : Fo) (A : Option Addr) (cap m : Nat) (hks : k.kinds = [a0]) (hm : m = k.len) (hk : KV w (fun g => g < B) k A cap) (p0 : PartV B v0 (fun h _ => q0 h.kind) true w) (r0 : q0 a0) :
    Calls Tryz.prog 52 #[.slice A m cap, .slice (some ⟨H, 0, none⟩) 1 1] (w.alloc (.cells #[v0] 93)) fun e w' => e = .returned (.bool true) ∧ Below w.heap.size w w' := by
  have hl : k.len = 1 := by rw [← kinds_len, hks]; rfl
  have hm2 : m = 1 := by omega
  subst hH hm2
  refine (fit_any B (w.alloc (.cells #[v0] 93)) [v0] 1 w.heap.size k A cap (RowB.new w 93 _) rfl hl.symm (hk.below (bel1 w _)) (fun i h kk r e => ?_) (by decide)).mono ?_
  · have hi : i = 0 := by
      have := (kinds_at i e)
      rw [hks] at this
      have := (List.getElem?_eq_some_iff.mp this).1
      simp only [List.length_cons, List.length_nil] at this
      omega
    rcases hi with rfl
    · have := kinds_at _ e
      rw [hks] at this
      have ht : a0 = h.kind := Option.some.inj this
      exact ⟨v0, fun h _ => q0 h.kind, rfl, p0.below (bel1 w _), show q0 h.kind from ht ▸ r0⟩
  · rintro e w' ⟨h1, h2⟩
    exact ⟨h1, (bel1 w _).trans (h2.mono (by simp))⟩
theorem fit2 (B : Nat) (w : World) (v0 v1 : Value) (q0 q1 : Nat → Prop) (a0 a1 : Nat) (H : Nat) (hH : w.heap.size = H) (k : Fo) (A : Option Addr) (cap m : Nat) (hks : k.kinds = [a0, a1]) (hm : m = k.len) (hk : KV w (fun g => g < B) k A cap) (p0 : PartV B v0 (fun h _ => q0 h.kind) true w) (r0 : q0 a0) (p1 : PartV B v1 (fun h _ => q1 h.kind) true w) (r1 : q1 a1) :
    Calls Tryz.prog 52 #[.slice A m cap, .slice (some ⟨H, 0, none⟩) 2 2] (w.alloc (.cells #[v0, v1] 93)) fun e w' => e = .returned (.bool true) ∧ Below w.heap.size w w' := by
  have hl : k.len = 2 := by rw [← kinds_len, hks]; rfl
  have hm2 : m = 2 := by omega
  subst hH hm2
  refine (fit_any B (w.alloc (.cells #[v0, v1] 93)) [v0, v1] 2 w.heap.size k A cap (RowB.new w 93 _) rfl hl.symm (hk.below (bel1 w _)) (fun i h kk r e => ?_) (by decide)).mono ?_
  · have hi : i = 0 ∨ i = 1 := by
      have := (kinds_at i e)
      rw [hks] at this
      have := (List.getElem?_eq_some_iff.mp this).1
      simp only [List.length_cons, List.length_nil] at this
      omega
    rcases hi with rfl | rfl
    · have := kinds_at _ e
      rw [hks] at this
      have ht : a0 = h.kind := Option.some.inj this
      exact ⟨v0, fun h _ => q0 h.kind, rfl, p0.below (bel1 w _), show q0 h.kind from ht ▸ r0⟩
    · have := kinds_at _ e
      rw [hks] at this
      have ht : a1 = h.kind := Option.some.inj this
      exact ⟨v1, fun h _ => q1 h.kind, rfl, p1.below (bel1 w _), show q1 h.kind from ht ▸ r1⟩
  · rintro e w' ⟨h1, h2⟩
    exact ⟨h1, (bel1 w _).trans (h2.mono (by simp))⟩
theorem fit3 (B : Nat) (w : World) (v0 v1 v2 : Value) (q0 q1 q2 : Nat → Prop) (a0 a1 a2 : Nat) (H : Nat) (hH : w.heap.size = H) (k : Fo) (A : Option Addr) (cap m : Nat) (hks : k.kinds = [a0, a1, a2]) (hm : m = k.len) (hk : KV w (fun g => g < B) k A cap) (p0 : PartV B v0 (fun h _ => q0 h.kind) true w) (r0 : q0 a0) (p1 : PartV B v1 (fun h _ => q1 h.kind) true w) (r1 : q1 a1) (p2 : PartV B v2 (fun h _ => q2 h.kind) true w) (r2 : q2 a2) :
    Calls Tryz.prog 52 #[.slice A m cap, .slice (some ⟨H, 0, none⟩) 3 3] (w.alloc (.cells #[v0, v1, v2] 93)) fun e w' => e = .returned (.bool true) ∧ Below w.heap.size w w' := by
  have hl : k.len = 3 := by rw [← kinds_len, hks]; rfl
  have hm2 : m = 3 := by omega
  subst hH hm2
  refine (fit_any B (w.alloc (.cells #[v0, v1, v2] 93)) [v0, v1, v2] 3 w.heap.size k A cap (RowB.new w 93 _) rfl hl.symm (hk.below (bel1 w _)) (fun i h kk r e => ?_) (by decide)).mono ?_
  · have hi : i = 0 ∨ i = 1 ∨ i = 2 := by
      have := (kinds_at i e)
      rw [hks] at this
      have := (List.getElem?_eq_some_iff.mp this).1
      simp only [List.length_cons, List.length_nil] at this
      omega
    rcases hi with rfl | rfl | rfl
    · have := kinds_at _ e
      rw [hks] at this
      have ht : a0 = h.kind := Option.some.inj this
      exact ⟨v0, fun h _ => q0 h.kind, rfl, p0.below (bel1 w _), show q0 h.kind from ht ▸ r0⟩
    · have := kinds_at _ e
      rw [hks] at this
      have ht : a1 = h.kind := Option.some.inj this
      exact ⟨v1, fun h _ => q1 h.kind, rfl, p1.below (bel1 w _), show q1 h.kind from ht ▸ r1⟩
    · have := kinds_at _ e
      rw [hks] at this
      have ht : a2 = h.kind := Option.some.inj this
      exact ⟨v2, fun h _ => q2 h.kind, rfl, p2.below (bel1 w _), show q2 h.kind from ht ▸ r2⟩
  · rintro e w' ⟨h1, h2⟩
    exact ⟨h1, (bel1 w _).trans (h2.mono (by simp))⟩
end Pg
end Go.Proofs.YtiabkkdeonepgaaGreatDoor
