/- The contract of edit.walkBoth. -/
import Derived.Test.YtendbkbjmibchaaPP
namespace Go.Proofs.Ytendbkbjmibchaa
open Go.RowKit

/-- The function value that lays nothing. -/
theorem lay65 (F : Nat) (caps : List Value) (B : Nat) (I : List Pc → (Nat → Prop) → World → Prop) (G : Pc → List Pc → Prop) (L : LayD F caps B I G) (X : List Pc) : LayD 65 [] B (fun _ D w => I X D w) (fun _ _ => True) where
  call := fun ps D p w hI _ hB => by
    have HL := Lib.hid L
    have HI := Lib.hid hI
    clear L hI
    go_enter Try.func65, Try.ntmps65
    go_wp2_with fail
    go_end0
    have hb : Below w.heap.size w (w.alloc (.cells #[.int .i64 p.f, .int .i64 p.t, .string p.x] 79)) := (Below.refl _ _).alloc (Nat.le_refl _) _
    exact ⟨rfl, D, HL.out.keep _ _ _ _ HI.out hb.size (fun k hk _ => hb.block k hk), hb.mono hB, Kept.below hb⟩
  dom := fun _ D w k h hk => L.dom X D w k h hk
  enter := by
    intro args w
    go_simp
  keep := fun _ D w w' h hs hk => L.keep X D w w' h hs hk

theorem good_ps2 : ∀ (l : List Pc) (k : Int), (∀ p ∈ l, Good p) → ∀ p ∈ ps2 l k, Good p
  | [], k, h, p, hp => by simp [ps2] at hp
  | y :: r, k, h, p, hp => by
    unfold ps2 at hp
    split at hp
    · exact h p hp
    · rename_i hk
      split at hp
      · exact good_ps2 r _ (fun q hq => h q (by simp [hq])) p hp
      · rename_i hl
        rcases List.mem_cons.1 hp with rfl | hp
        · exact (good_tl (h y (by simp)) (by omega) (by omega)).1
        · exact h p (by simp [hp])
theorem len_ps2 : ∀ (l : List Pc) (k : Int), (ps2 l k).length ≤ l.length
  | [], k => by simp [ps2]
  | y :: r, k => by
    unfold ps2
    split
    · simp
    · split
      · have := len_ps2 r (k - plen y); simp; omega
      · simp
theorem both_at (q : List Pc) (a : Int) (b : List Ed) (k : Nat) (hk : k < b.length) :
    both q a (b.drop k) = ps1 q (b[k].f - a) ++ tx_ b[k].x ++ both (ps2 (ps2 q (b[k].f - a)) (b[k].t - b[k].f)) b[k].t (b.drop (k + 1)) := by
  rw [List.drop_eq_getElem_cons hk, both]
end Go.Proofs.Ytendbkbjmibchaa
