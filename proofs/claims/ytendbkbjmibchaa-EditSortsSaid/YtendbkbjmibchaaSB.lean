/- The library's insertion sort, laid; exchanges of rows. -/
import Derived.Test.YtendbkbjmibchaaSA
import Derived.Shelf.SlGeneric
import Derived.Deep.LoopGhost
namespace Go.Proofs.Ytendbkbjmibchaa
open Go.RowKit Go.Sort Go.Proofs Go.Shelf
def ins20_ren : Go.Shelf.Ren := ⟨fun | 20 => 73 | n => n, fun | 24 => 68 | 22 => 53 | 3 => 3 | 25 => 92 | 4 => 4 | 0 => 0 | n => n, fun | n => n⟩
theorem ins20 : Go.Proofs.SlLaysF0.n20 Try.prog ins20_ren := {
  mixed := by kernel_rfl
  f20 := ⟨Try.f73.name, by kernel_rfl, Try.func73.trans (congrArg some (by kernel_rfl))⟩
  t0 := Try.underlying0
  a0 := Try.isAgg0
  z0 := Try.sizeOf0
  v0 := Try.zeroValue0
  t3 := Try.underlying3
  a3 := Try.isAgg3
  z3 := Try.sizeOf3
  v3 := Try.zeroValue3
  t4 := Try.underlying4
  a4 := Try.isAgg4
  z4 := Try.sizeOf4
  v4 := Try.zeroValue4
  t22 := Try.underlying53
  a22 := Try.isAgg53
  z22 := Try.sizeOf53
  v22 := Try.zeroValue53
  t25 := Try.underlying92
  a25 := Try.isAgg92
  z25 := Try.sizeOf92
  v25 := Try.zeroValue92 }

theorem enter57 : ∀ args w, (callFunc 57 args).run Try.prog w = .ok (.enter 57 args) w := enters_of Try.func57 (by kernel_rfl) rfl
theorem cmpLays57 (blk off size : Nat) (w : World) : CmpLays Try.prog 57 #[] enc3 3 cf blk off size w :=
  fun _ _ _ _ x y => lt57_any x y _
theorem enc3_len (x : Ed) : (enc3 x).length = 3 := rfl
theorem enc3_one (x : Ed) : ∀ v ∈ enc3 x, v.oneCell' = true := by
  intro v hv
  simp [enc3] at hv
  rcases hv with rfl | rfl | rfl <;> rfl
theorem ltcf (x y : Ed) : ltOf cf x y = decide (x.f < y.f ∨ (x.f = y.f ∧ x.t < y.t)) := by
  unfold ltOf cf sgn
  rw [Bool.eq_iff_iff, decide_eq_true_iff, decide_eq_true_iff]
  (repeat' split) <;> omega
theorem swocf : SWO (ltOf cf) where
  irrefl x := by rw [ltcf]; simp
  trans x y z h1 h2 := by
    rw [ltcf] at *
    simp only [decide_eq_true_iff] at *
    omega
  ntrans x y z h1 h2 := by
    rw [ltcf] at *
    simp only [decide_eq_false_iff_not] at *
    omega
end Go.Proofs.Ytendbkbjmibchaa
