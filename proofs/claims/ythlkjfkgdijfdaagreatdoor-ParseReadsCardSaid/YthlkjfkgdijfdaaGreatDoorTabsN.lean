/- What the rows list of the table of kinds' names gives the walks. -/
import Derived.Test.YthlkjfkgdijfdaaGreatDoorTabsT
import Derived.Test.YthlkjfkgdijfdaaGreatDoorXK
import Derived.ChangeArms
namespace Go.Proofs.YthlkjfkgdijfdaaGreatDoor
open Go.Shelf Go.Lib Go.RowKit
theorem names_data : (Rows.laid_whetstone_tree_names : DataW Unit) = .agg (Pg.nmL.map fun s => .lit (.string s.data.toList)) := by kernel_rfl
theorem names_of {l : List (String × DataW Unit)} {W : World} (hL : laidMet Tryz.prog l W) (h1 : ("whetstone/tree.names", Rows.laid_whetstone_tree_names) ∈ l) : Pg.Names W := by
  obtain ⟨g, t, cs, fuel, p, q1, q2, q3, q4⟩ := Lib.laidMet.reads hL h1
  obtain rfl : 0 = g := Option.some.inj ((show Tryz.prog.globalNamed "whetstone/tree.names" = some 0 by kernel_rfl).symm.trans q1)
  obtain rfl : 109 = t := Option.some.inj ((show (Tryz.prog.globals[0]?).map (·.type) = some 109 by kernel_rfl).symm.trans q2)
  rw [names_data] at q4
  intro k hk
  obtain ⟨f', d, q, hd, ht⟩ := array_elem Tryz.underlying109 q4 k hk
  obtain ⟨s, hs, hx, _⟩ := DataW.trod_string Tryz.underlying9 ht
  have hc : Tryz.prog.cellsOf 9 = 1 := by kernel_rfl
  rw [hc, Nat.mul_one] at hs
  have hcs : cs.toList[k]? = some (.string s) := by
    have := congrArg (·[0]?) hs
    simpa [List.getElem?_take, List.getElem?_drop] using this
  injection hx with hx _
  have hl : k < Pg.nmL.length := by rw [show Pg.nmL.length = 35 from by decide]; exact hk
  rw [List.getElem?_map, List.getElem?_eq_getElem hl] at hd
  have hsn : s = Pg.nmL[k] := by
    generalize Pg.nmL[k] = y at *
    have h2 : DataW.lit (H := Unit) (.string y.data.toList) = d := Option.some.inj hd
    rw [hx] at h2
    simp only [DataW.lit.injEq, Lit.string.injEq] at h2
    exact ByteArray.ext (Array.toList_inj.1 h2.symm)
  have hn : Pg.nmB k = s := by
    unfold Pg.nmB
    rw [if_pos hk, List.getD_eq_getElem?_getD, List.getElem?_eq_getElem hl, hsn, Option.getD_some]
  have hcell : W.cell? ⟨0, k, none⟩ = some (.string (Pg.nmB k)) := by
    rw [hn]
    rw [World.var?_cell q1 q3 k, ← Array.getElem?_toList, hcs]
  refine ⟨hcell, ?_⟩
  by_cases h0 : 0 < W.heap.size
  · exact h0
  · have : W.heap[0]? = none := Array.getElem?_eq_none (by omega)
    simp [World.cell?, this] at hcell
end Go.Proofs.YthlkjfkgdijfdaaGreatDoor
