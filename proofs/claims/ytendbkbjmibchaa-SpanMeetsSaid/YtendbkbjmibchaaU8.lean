/- A byte's bounds. -/
import Derived.Test.YtendbkbjmibchaaBase
namespace Go.Proofs.Ytendbkbjmibchaa
open Go.RowKit
theorem u8_bounds {a : Int} (h : (Lit.int .u8 a).wf = true) : 0 ≤ a ∧ a ≤ 255 := by
  simp [Lit.wf, IntKind.min, IntKind.max, IntKind.bits, IntKind.signed] at h
  omega
end Go.Proofs.Ytendbkbjmibchaa
