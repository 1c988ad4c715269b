/- What the rows list of the table of ten's powers gives the walks; and the closed facts that each card asks. -/
import Derived.Test.YtbjlhdjcdinmhaaDoorQY
import Derived.Test.YtbjlhdjcdinmhaaDoorQP
import Derived.Test.YtbjlhdjcdinmhaaDoorTie
import Derived.Test.YtbjlhdjcdinmhaaDoorCards
import Derived.Test.YtbjlhdjcdinmhaaDoorLaw
import Derived.PinnedBridge
import Derived.Lib.LaidTab
import Derived.Lib.LaidU8
import Derived.Lay
import Derived.SevenTiedAt
namespace Go.Proofs.YtbjlhdjcdinmhaaDoor
open Go.Shelf Go.Lib Go.RowKit
theorem own : ownKnob Tryd.prog.godebug = none := by kernel_rfl
theorem laidOut : laidOutB Tryd.prog = true := by kernel_rfl
theorem pow_eq : (Rows.laid_internal_strconv_uint64pow10 : DataW Unit) = tabData .u64 Lib.pow10Tab := by kernel_rfl
theorem tb_of {l : List (String × DataW Unit)} {W : World} (hL : laidMet Tryd.prog l W) (h1 : ("internal/strconv.uint64pow10", Rows.laid_internal_strconv_uint64pow10) ∈ l) : Vm.Tb W := by
  obtain ⟨g', t, cs, fuel, p, q1, q2, q3, q4⟩ := Lib.laidMet.reads hL h1
  obtain rfl := Option.some.inj ((show Tryd.prog.globalNamed "internal/strconv.uint64pow10" = some 1 by kernel_rfl).symm.trans q1)
  obtain rfl := Option.some.inj ((show (Tryd.prog.globals[1]?).map (·.type) = some 123 by kernel_rfl).symm.trans q2)
  rw [pow_eq] at q4
  have hc := Lib.cells_of_tab (P := Tryd.prog) (t := 123) (e := 107) (n := 20) (k := .u64) Tryd.underlying123 Tryd.underlying107 (by kernel_rfl) (by kernel_rfl) q4
  refine Vm.Tb.of ?_
  unfold Lib.TabIs
  rw [q3, ← hc]
end Go.Proofs.YtbjlhdjcdinmhaaDoor
