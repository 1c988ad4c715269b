import Derived.Test.YtiabkkdeonepgaaGreatDoorTabs
import Derived.Test.YtiabkkdeonepgaaGreatDoorXC
import Derived.LaidLaws
import Derived.FnData
namespace Go.Proofs.YtiabkkdeonepgaaGreatDoor
open Go.Shelf Go.Lib Go.RowKit
theorem err_of {w : World} {n : String} {g : Nat} {ty : String} {d : DataW Unit} (hg : Tryz.prog.globalNamed n = some g) (ht : (Tryz.prog.globals[g]?).map (·.type) = some 89)
    (h : VarReads Tryz.prog w n (.iface ty d)) : ∃ t p, w.cell? ⟨g, 0, none⟩ = some (.iface t p) := by
  obtain ⟨g', t, cs, fuel, p, h1, h2, h3, h4⟩ := h
  obtain rfl : g = g' := Option.some.inj (hg.symm.trans h1)
  obtain rfl : 89 = t := Option.some.inj (ht.symm.trans h2)
  obtain ⟨_, u, v, hc, _⟩ := iface_of_trod Tryz.underlying89 h4
  refine ⟨u, v, ?_⟩
  rw [World.var?_cell hg h3 0, ← Array.getElem?_toList, hc]
  rfl
theorem errs_of {l : List (String × DataW Unit)} {W : World} (hL : laidMet Tryz.prog l W) (h1 : ("strconv.ErrSyntax", Rows.laid_strconv_ErrSyntax) ∈ l) (h2 : ("strconv.ErrRange", Rows.laid_strconv_ErrRange) ∈ l) : Errs W :=
  ⟨err_of (by kernel_rfl) (by kernel_rfl) (Lib.laidMet.reads hL h1), err_of (by kernel_rfl) (by kernel_rfl) (Lib.laidMet.reads hL h2)⟩
end Go.Proofs.YtiabkkdeonepgaaGreatDoor
