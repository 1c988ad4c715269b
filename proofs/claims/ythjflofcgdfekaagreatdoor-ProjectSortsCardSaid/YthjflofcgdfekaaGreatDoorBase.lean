import Derived.Test.YthjflofcgdfekaaGreatDoorRows
import Derived.WalkKit
import Derived.WalkLawsBesides
import Derived.WalkSpells
import Derived.BigQuiet
import Derived.Deep.QuietTactic
import Derived.Lib.Hide
namespace Go.Proofs.YthjflofcgdfekaaGreatDoor
open Go.RowKit
theorem rb {a b : Bool} (h : a = true ↔ b = true) : Ending.returned (.bool a) = .returned (.bool b) := by
  rw [Bool.eq_iff_iff.2 h]
theorem ri {k : IntKind} {a b : Int} (h : a = b) : Ending.returned (.int k a) = .returned (.int k b) := by rw [h]
theorem bcell {B : Nat} {W w1 : World} (hb : Below B W w1) :
    (∀ b o, b < B → w1.cell? ⟨b, o, none⟩ = W.cell? ⟨b, o, none⟩) ∧ (∀ b o, b < B → w1.frozen? ⟨b, o, none⟩ = W.frozen? ⟨b, o, none⟩) :=
  ⟨fun b o h => hb.cell (p := ⟨b, o, none⟩) h, fun b o h => hb.frozen (p := ⟨b, o, none⟩) h⟩
theorem below_drewN {B : Nat} {a w : World} (h : Below B a w) (n : Nat) : Below B a (w.drewN n) := ⟨h.os, h.tape, h.output, h.size, h.block⟩
def Ints (w : World) (B : Nat) (A : Option Addr) (xs : List Int) : Prop :=
  0 < xs.length → ∃ b : Nat, A = some ⟨b, 0, none⟩ ∧ b < B ∧ ∀ j, j < xs.length → w.cell? ⟨b, j, none⟩ = some (.int .i64 (xs.getD j 0))
theorem Ints.below {w w' : World} {B : Nat} {A : Option Addr} {xs : List Int} (h : Ints w B A xs) (hb : Below B w w') : Ints w' B A xs := fun hn => by
  obtain ⟨b, e, hlt, hc⟩ := h hn
  exact ⟨b, e, hlt, fun j hj => (hb.cell (p := ⟨b, j, none⟩) hlt).trans (hc j hj)⟩
theorem Ints.alloc {w : World} {B : Nat} {A : Option Addr} {xs : List Int} (h : Ints w B A xs) (hB : B ≤ w.heap.size) (o : Obj) : Ints (w.alloc o) B A xs :=
  h.below ((Below.refl _ _).alloc hB o)
theorem Ints.of_own {w : World} {base e n c : Nat} {A : Option Addr} {xs : List Int} (h : w.ownsRow base e 1 (.slice A n c) n (xs.map (Value.int .i64))) (hn : n = xs.length) : Ints w w.heap.size A xs := fun h0 => by
  subst hn
  rcases h.2 with ⟨hv, hx⟩ | ⟨g, cap, cur, hv, _, hh, _⟩
  · simp at hx; subst hx; simp at h0
  · injection hv with hA _ _
    subst hA
    refine ⟨g, rfl, (h.lt g rfl).2, fun j hj => ?_⟩
    have := h.cells (g := g) rfl j (.int .i64 (xs.getD j 0)) (by simp [hj])
    simp only [Addr.add] at this
    by_cases hj0 : j = 0 <;> simpa [hj0] using this
def RowB (w : World) (g : Nat) (t : TypeId) (cs : Array Value) : Prop := w.heap[g]? = some (.cells cs t (0, 0))
theorem RowB.cell {w : World} {g t : Nat} {cs : Array Value} (h : RowB w g t cs) (i : Nat) : w.cell? ⟨g, i, none⟩ = cs[i]? := cell_of_row w g i cs t (0, 0) h
theorem RowB.thaw {w : World} {g t : Nat} {cs : Array Value} (h : RowB w g t cs) (i : Nat) : w.frozen? ⟨g, i, none⟩ = false := by
  unfold RowB at h
  simp [World.frozen?, h]
theorem RowB.lt {w : World} {g t : Nat} {cs : Array Value} (h : RowB w g t cs) : g < w.heap.size := by
  rcases Nat.lt_or_ge g w.heap.size with h1 | h1
  · exact h1
  · unfold RowB at h; rw [Array.getElem?_eq_none h1] at h; cases h
theorem RowB.new (w : World) (t : TypeId) (cs : Array Value) : RowB (w.alloc (.cells cs t)) w.heap.size t cs := heap_alloc_new w _
theorem RowB.alloc {w : World} {g t : Nat} {cs : Array Value} (h : RowB w g t cs) (o : Obj) : RowB (w.alloc o) g t cs := (Below.heap_alloc w o g h.lt).trans h
theorem RowB.below {w w' : World} {g t B : Nat} {cs : Array Value} (h : RowB w g t cs) (hb : Below B w w') (hg : g < B) : RowB w' g t cs := (hb.block g hg).trans h
theorem RowB.grown {w w' : World} {g t : Nat} {cs : Array Value} {row : Option Nat} (h : RowB w g t cs) (hb : w.grownBy w' row) (hg : some g ≠ row) : RowB w' g t cs := (hb.block g h.lt hg).trans h
theorem RowB.far {w : World} {g t : Nat} {cs : Array Value} (h : RowB w g t cs) {p : Addr} (hp : g ≠ p.block) (u : Value) : RowB (w.setCell p u) g t cs := (Below.heap_setCell w p u g hp).trans h
theorem RowB.put {w : World} {g t : Nat} {cs : Array Value} (h : RowB w g t cs) (i : Nat) (u : Value) : RowB (w.setCell ⟨g, i, none⟩ u) g t (cs.setIfInBounds i u) := by
  unfold RowB at h ⊢
  simp [World.setCell, Array.getElem?_modify, h]
end Go.Proofs.YthjflofcgdfekaaGreatDoor
