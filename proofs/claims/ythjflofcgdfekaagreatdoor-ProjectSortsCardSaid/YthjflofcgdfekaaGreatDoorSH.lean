import Derived.Test.YthjflofcgdfekaaGreatDoorSG
namespace Go.Proofs.YthjflofcgdfekaaGreatDoor
open Go.RowKit Go.Op
namespace Sc
open Vm
theorem belA (w : World) (o1 : Obj) : Below w.heap.size w (w.alloc o1) := (Below.refl _ _).alloc (Nat.le_refl _) _
set_option maxHeartbeats 4000000 in
set_option maxRecDepth 100000 in
theorem isItem_any (x : Bd) (w : World) : Calls Tryz.prog 226 #[.agg #[.int .i64 x.at_, .int .i64 x.kind, .string x.word, .int .i64 x.item]] w fun e w' => e = .returned (.bool (isItem x)) ∧ Below w.heap.size w w' := by
  have HB := Lib.hid (belA w (.cells #[.int .i64 x.at_, .int .i64 x.kind, .string x.word, .int .i64 x.item] 60))
  obtain ⟨a, k, wd, it⟩ := x
  unfold isItem
  simp only at *
  by_cases h1 : k = 1
  · subst h1
    go_enter Tryz.func226, Tryz.ntmps226
    go_wp2
    (first | go_ret | go_ret2)
    exact ⟨rfl, HB.out⟩
  · have h1' : (k == 1) = false := by rw [beq_eq_false_iff_ne]; exact h1
    by_cases h2 : k = 2
    · subst h2
      go_enter Tryz.func226, Tryz.ntmps226
      go_wp2
      (first | go_ret | go_ret2)
      exact ⟨rfl, HB.out⟩
    · have h2' : (k == 2) = false := by rw [beq_eq_false_iff_ne]; exact h2
      rw [h1', h2']
      go_enter Tryz.func226, Tryz.ntmps226
      go_wp2
      (first | go_ret | go_ret2)
      exact ⟨rfl, HB.out⟩
theorem flat_at {α : Type} {f : α → List Value} {k : Nat} (hf : ∀ x, (f x).length = k) : ∀ {l : List α} {i : Nat} {x : α}, l[i]? = some x → ∀ {j : Nat} {u : Value}, (f x)[j]? = some u → (l.flatMap f)[i * k + j]? = some u
  | [], i, x, h, _, _, _ => by simp at h
  | y :: l, 0, x, h, j, u, hj => by
    simp only [List.getElem?_cons_zero, Option.some.injEq] at h
    subst h
    rw [List.flatMap_cons, Nat.zero_mul, Nat.zero_add, List.getElem?_append_left (List.getElem?_eq_some_iff.1 hj).1]
    exact hj
  | y :: l, i + 1, x, h, j, u, hj => by
    rw [List.flatMap_cons, show (i + 1) * k + j = k + (i * k + j) by rw [Nat.succ_mul]; omega, List.getElem?_append_right (by rw [hf]; omega), hf, Nat.add_sub_cancel_left]
    exact flat_at hf (by simpa using h) hj
theorem row_get {w : World} {B e sz n : Nat} {v : Value} {α : Type} {f : α → List Value} {l : List α} (h : w.ownsRow B e sz v n (l.flatMap f)) (hf : ∀ x, (f x).length = sz) {i : Nat} {x : α} (hx : l[i]? = some x) (hn : n = l.length) :
    ∃ g c, v = .slice (some ⟨g, 0, none⟩) n c ∧ n ≤ c ∧ g < w.heap.size ∧ v.ownBlock = some g ∧ ∀ j u, (f x)[j]? = some u → w.cell? ⟨g, i * sz + j, none⟩ = some u := by
  have hi := (List.getElem?_eq_some_iff.1 hx).1
  rcases h.2 with ⟨hv, h0⟩ | ⟨g, cap, cur, hv, h1, h2, h3, _⟩
  · omega
  · subst hv
    refine ⟨g, cap, rfl, h3, (h.lt g rfl).2, rfl, fun j u hj => ?_⟩
    have := h.cells (g := g) rfl (i * sz + j) u (flat_at hf hx hj)
    simp only [Addr.add] at this
    by_cases hz : i * sz + j = 0
    · rw [hz]; rw [if_pos hz] at this; exact this
    · rw [if_neg hz] at this; simpa using this
theorem men_eq (a : Int) (word : ByteArray) (write : Bool) (s s0 : St) (far : Int) (h : (s0, far) = men0 a word write s) : { s0 with ms := s0.ms ++ [⟨a, s.means word, write, far⟩] } = mention a word write s := by
  unfold mention
  rw [← h]
  have := men0_same a word write s
  rw [← h] at this
  rw [show s0.ms = s.ms from this.2.1]
end Sc
end Go.Proofs.YthjflofcgdfekaaGreatDoor
