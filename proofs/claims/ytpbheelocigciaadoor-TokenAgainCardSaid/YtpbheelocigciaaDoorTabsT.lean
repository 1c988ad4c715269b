/- What the rows list of the two sentinels of strconv gives the walks. -/
import Derived.Test.YtpbheelocigciaaDoorTabs
import Derived.Test.YtpbheelocigciaaDoorTB
import Derived.LaidLaws
import Derived.FnData
namespace Go.Proofs.YtpbheelocigciaaDoor
open Go.Shelf Go.Lib Go.RowKit

theorem err_of {w : World} {n : String} {g : Nat} {ty : String} {d : DataW Unit} (hg : Tryd.prog.globalNamed n = some g) (ht : (Tryd.prog.globals[g]?).map (·.type) = some 65)
    (h : VarReads Tryd.prog w n (.iface ty d)) : ∃ t p, w.cell? ⟨g, 0, none⟩ = some (.iface t p) := by
  obtain ⟨g', t, cs, fuel, p, h1, h2, h3, h4⟩ := h
  obtain rfl : g = g' := Option.some.inj (hg.symm.trans h1)
  obtain rfl : 65 = t := Option.some.inj (ht.symm.trans h2)
  obtain ⟨_, u, v, hc, _⟩ := iface_of_trod Tryd.underlying65 h4
  refine ⟨u, v, ?_⟩
  rw [World.var?_cell hg h3 0, ← Array.getElem?_toList, hc]
  rfl
theorem errs_of {l : List (String × DataW Unit)} {W : World} (hL : laidMet Tryd.prog l W) (h1 : ("strconv.ErrSyntax", Rows.laid_strconv_ErrSyntax) ∈ l) (h2 : ("strconv.ErrRange", Rows.laid_strconv_ErrRange) ∈ l) : Errs W :=
  ⟨err_of (by kernel_rfl) (by kernel_rfl) (Lib.laidMet.reads hL h1), err_of (by kernel_rfl) (by kernel_rfl) (Lib.laidMet.reads hL h2)⟩
theorem rd50 : Tryd.prog.readableRec 50 = true ∧ 50 < Tryd.prog.types.size := ⟨by kernel_rfl, of_decide_eq_true (by kernel_rfl)⟩
end Go.Proofs.YtpbheelocigciaaDoor
