/-
  No cell of these rows narrows 'for every input' (looked for: loops, veiled, ifaces, maps, wideKeys, modest, calm, conditions, laid).
  DERIVED. THE GIVEN ROWS OF THIS SEAT. 10 by the template 'for every input the law returns true; each argument reads behind the call as it read before'; 0 by the template 'total and deterministic' (their statements: YtendbkbjmibchaaTotals.lean).
  GIVEN WITH THE SEED: the statements are not yours to turn. If you find one false, say at which input.
  Laid BY PROGRAM, IN A SANDBOX (cutbox-rows.mjs): the forced cells as the released guide's own fill.sh prints them over the translation 523b1640904c3172… (all of the seat's roots in one cut). By AI agents, Wed Nov 11 2026. No macro, syntax, notation, axiom, sorry.
-/
import Derived.Test.YtendbkbjmibchaaChecked
import GoSem.Claim
import GoSem.ClaimJoined
import GoSem.ClaimMapViews
import Derived.JoinedTies
import Derived.KernelRfl
namespace Go.Proofs.Ytendbkbjmibchaa
/- THE CELL 'sum', in the pinned program and in every row, IS THE sha256 OF THE DUMP (.gsa) THAT YtendbkbjmibchaaProg.lean LOADS. Nothing in Lean hashes anything: it is a label: what it is worth is what the hold of that sum in a sandbox is worth. -/
noncomputable def Try.pinned : Pinned := { name := "ytendbkbjmibchaa", sum := "523b1640904c31720bc381c75aec6b47cba2d13f3a1e226c32a2111d1236a6f2", checked := Try.checked }
namespace Rows
def none {H : Type} : Left H := { results := [], args := [] }

/-- 'whetstonelaw01.SpanPlaces': WHATEVER THE INPUT: true; the input reads as it did. -/
def spanPlacesSpec : ChangeSpec := { name := "spanPlaces", fn := fun _ => fun
  | [d1, d2, d3, d4] => { results := [.lit (.bool true)], args := [d1, d2, d3, d4] }
  | _ => none }
def spanPlacesRow : OpenClaim := { program := "ytendbkbjmibchaa", sum := "523b1640904c31720bc381c75aec6b47cba2d13f3a1e226c32a2111d1236a6f2", func := "whetstone/whetstonelaw01.SpanPlaces", spec := "spanPlaces", apart := false }
def SpanPlacesSaid : Prop := spanPlacesRow.holds Try.pinned (OpenSpec.ofChange spanPlacesSpec)

/-- ITS FALSE NEIGHBOUR: 'it returns false'. Refute it at one input. -/
def spanPlacesWrong : ChangeSpec := { name := "spanPlaces", fn := fun _ => fun
  | [d1, d2, d3, d4] => { results := [.lit (.bool false)], args := [d1, d2, d3, d4] }
  | _ => none }
def SpanPlacesWrongFalsely : Prop := spanPlacesRow.holds Try.pinned (OpenSpec.ofChange spanPlacesWrong)

/-- 'whetstonelaw01.SpanBack': WHATEVER THE INPUT: true; the input reads as it did. -/
def spanBackSpec : ChangeSpec := { name := "spanBack", fn := fun _ => fun
  | [d1, d2] => { results := [.lit (.bool true)], args := [d1, d2] }
  | _ => none }
def spanBackRow : OpenClaim := { program := "ytendbkbjmibchaa", sum := "523b1640904c31720bc381c75aec6b47cba2d13f3a1e226c32a2111d1236a6f2", func := "whetstone/whetstonelaw01.SpanBack", spec := "spanBack", apart := false }
def SpanBackSaid : Prop := spanBackRow.holds Try.pinned (OpenSpec.ofChange spanBackSpec)

/-- ITS FALSE NEIGHBOUR: 'it returns false'. Refute it at one input. -/
def spanBackWrong : ChangeSpec := { name := "spanBack", fn := fun _ => fun
  | [d1, d2] => { results := [.lit (.bool false)], args := [d1, d2] }
  | _ => none }
def SpanBackWrongFalsely : Prop := spanBackRow.holds Try.pinned (OpenSpec.ofChange spanBackWrong)

/-- 'whetstonelaw01.SpanMeets': WHATEVER THE INPUT: true; the input reads as it did. -/
def spanMeetsSpec : ChangeSpec := { name := "spanMeets", fn := fun _ => fun
  | [d1, d2, d3, d4, d5] => { results := [.lit (.bool true)], args := [d1, d2, d3, d4, d5] }
  | _ => none }
def spanMeetsRow : OpenClaim := { program := "ytendbkbjmibchaa", sum := "523b1640904c31720bc381c75aec6b47cba2d13f3a1e226c32a2111d1236a6f2", func := "whetstone/whetstonelaw01.SpanMeets", spec := "spanMeets", apart := false }
def SpanMeetsSaid : Prop := spanMeetsRow.holds Try.pinned (OpenSpec.ofChange spanMeetsSpec)

/-- ITS FALSE NEIGHBOUR: 'it returns false'. Refute it at one input. -/
def spanMeetsWrong : ChangeSpec := { name := "spanMeets", fn := fun _ => fun
  | [d1, d2, d3, d4, d5] => { results := [.lit (.bool false)], args := [d1, d2, d3, d4, d5] }
  | _ => none }
def SpanMeetsWrongFalsely : Prop := spanMeetsRow.holds Try.pinned (OpenSpec.ofChange spanMeetsWrong)

/-- 'whetstonelaw01.SpanCuts': WHATEVER THE INPUT: true; the input reads as it did. -/
def spanCutsSpec : ChangeSpec := { name := "spanCuts", fn := fun _ => fun
  | [d1, d2, d3] => { results := [.lit (.bool true)], args := [d1, d2, d3] }
  | _ => none }
def spanCutsRow : OpenClaim := { program := "ytendbkbjmibchaa", sum := "523b1640904c31720bc381c75aec6b47cba2d13f3a1e226c32a2111d1236a6f2", func := "whetstone/whetstonelaw01.SpanCuts", spec := "spanCuts", apart := false }
def SpanCutsSaid : Prop := spanCutsRow.holds Try.pinned (OpenSpec.ofChange spanCutsSpec)

/-- ITS FALSE NEIGHBOUR: 'it returns false'. Refute it at one input. -/
def spanCutsWrong : ChangeSpec := { name := "spanCuts", fn := fun _ => fun
  | [d1, d2, d3] => { results := [.lit (.bool false)], args := [d1, d2, d3] }
  | _ => none }
def SpanCutsWrongFalsely : Prop := spanCutsRow.holds Try.pinned (OpenSpec.ofChange spanCutsWrong)

/-- 'whetstonelaw01.SpanRows': WHATEVER THE INPUT: true; the input reads as it did. -/
def spanRowsSpec : ChangeSpec := { name := "spanRows", fn := fun _ => fun
  | [d] => { results := [.lit (.bool true)], args := [d] }
  | _ => none }
def spanRowsRow : OpenClaim := { program := "ytendbkbjmibchaa", sum := "523b1640904c31720bc381c75aec6b47cba2d13f3a1e226c32a2111d1236a6f2", func := "whetstone/whetstonelaw01.SpanRows", spec := "spanRows", apart := false }
def SpanRowsSaid : Prop := spanRowsRow.holds Try.pinned (OpenSpec.ofChange spanRowsSpec)

/-- ITS FALSE NEIGHBOUR: 'it returns false'. Refute it at one input. -/
def spanRowsWrong : ChangeSpec := { name := "spanRows", fn := fun _ => fun
  | [d] => { results := [.lit (.bool false)], args := [d] }
  | _ => none }
def SpanRowsWrongFalsely : Prop := spanRowsRow.holds Try.pinned (OpenSpec.ofChange spanRowsWrong)

/-- 'whetstonelaw02.EditDoes': WHATEVER THE INPUT: true; the input reads as it did. -/
def editDoesSpec : ChangeSpec := { name := "editDoes", fn := fun _ => fun
  | [d1, d2] => { results := [.lit (.bool true)], args := [d1, d2] }
  | _ => none }
def editDoesRow : OpenClaim := { program := "ytendbkbjmibchaa", sum := "523b1640904c31720bc381c75aec6b47cba2d13f3a1e226c32a2111d1236a6f2", func := "whetstone/whetstonelaw02.EditDoes", spec := "editDoes", inPlace := ["internal/abi.NoEscape"], unfollowed := true, recurses := true, apart := false }
def EditDoesSaid : Prop := editDoesRow.holds Try.pinned (OpenSpec.ofChange editDoesSpec)

/-- ITS FALSE NEIGHBOUR: 'it returns false'. Refute it at one input. -/
def editDoesWrong : ChangeSpec := { name := "editDoes", fn := fun _ => fun
  | [d1, d2] => { results := [.lit (.bool false)], args := [d1, d2] }
  | _ => none }
def EditDoesWrongFalsely : Prop := editDoesRow.holds Try.pinned (OpenSpec.ofChange editDoesWrong)

/-- 'whetstonelaw02.EditBack': WHATEVER THE INPUT: true; the input reads as it did. -/
def editBackSpec : ChangeSpec := { name := "editBack", fn := fun _ => fun
  | [d1, d2] => { results := [.lit (.bool true)], args := [d1, d2] }
  | _ => none }
def editBackRow : OpenClaim := { program := "ytendbkbjmibchaa", sum := "523b1640904c31720bc381c75aec6b47cba2d13f3a1e226c32a2111d1236a6f2", func := "whetstone/whetstonelaw02.EditBack", spec := "editBack", inPlace := ["internal/abi.NoEscape"], unfollowed := true, recurses := true, apart := false }
def EditBackSaid : Prop := editBackRow.holds Try.pinned (OpenSpec.ofChange editBackSpec)

/-- ITS FALSE NEIGHBOUR: 'it returns false'. Refute it at one input. -/
def editBackWrong : ChangeSpec := { name := "editBack", fn := fun _ => fun
  | [d1, d2] => { results := [.lit (.bool false)], args := [d1, d2] }
  | _ => none }
def EditBackWrongFalsely : Prop := editBackRow.holds Try.pinned (OpenSpec.ofChange editBackWrong)

/-- 'whetstonelaw02.EditBoth': WHATEVER THE INPUT: true; the input reads as it did. -/
def editBothSpec : ChangeSpec := { name := "editBoth", fn := fun _ => fun
  | [d1, d2, d3] => { results := [.lit (.bool true)], args := [d1, d2, d3] }
  | _ => none }
def editBothRow : OpenClaim := { program := "ytendbkbjmibchaa", sum := "523b1640904c31720bc381c75aec6b47cba2d13f3a1e226c32a2111d1236a6f2", func := "whetstone/whetstonelaw02.EditBoth", spec := "editBoth", inPlace := ["internal/abi.NoEscape"], unfollowed := true, recurses := true, apart := false }
def EditBothSaid : Prop := editBothRow.holds Try.pinned (OpenSpec.ofChange editBothSpec)

/-- ITS FALSE NEIGHBOUR: 'it returns false'. Refute it at one input. -/
def editBothWrong : ChangeSpec := { name := "editBoth", fn := fun _ => fun
  | [d1, d2, d3] => { results := [.lit (.bool false)], args := [d1, d2, d3] }
  | _ => none }
def EditBothWrongFalsely : Prop := editBothRow.holds Try.pinned (OpenSpec.ofChange editBothWrong)

/-- 'whetstonelaw02.EditSorts': WHATEVER THE INPUT: true; the input reads as it did. -/
def editSortsSpec : ChangeSpec := { name := "editSorts", fn := fun _ => fun
  | [d] => { results := [.lit (.bool true)], args := [d] }
  | _ => none }
def editSortsRow : OpenClaim := { program := "ytendbkbjmibchaa", sum := "523b1640904c31720bc381c75aec6b47cba2d13f3a1e226c32a2111d1236a6f2", func := "whetstone/whetstonelaw02.EditSorts", spec := "editSorts", inPlace := ["internal/abi.NoEscape"], unfollowed := true, recurses := true, apart := false }
def EditSortsSaid : Prop := editSortsRow.holds Try.pinned (OpenSpec.ofChange editSortsSpec)

/-- ITS FALSE NEIGHBOUR: 'it returns false'. Refute it at one input. -/
def editSortsWrong : ChangeSpec := { name := "editSorts", fn := fun _ => fun
  | [d] => { results := [.lit (.bool false)], args := [d] }
  | _ => none }
def EditSortsWrongFalsely : Prop := editSortsRow.holds Try.pinned (OpenSpec.ofChange editSortsWrong)

/-- 'whetstonelaw02.EditThree': WHATEVER THE INPUT: true; the input reads as it did. -/
def editThreeSpec : ChangeSpec := { name := "editThree", fn := fun _ => fun
  | [d1, d2, d3, d4] => { results := [.lit (.bool true)], args := [d1, d2, d3, d4] }
  | _ => none }
def editThreeRow : OpenClaim := { program := "ytendbkbjmibchaa", sum := "523b1640904c31720bc381c75aec6b47cba2d13f3a1e226c32a2111d1236a6f2", func := "whetstone/whetstonelaw02.EditThree", spec := "editThree", inPlace := ["internal/abi.NoEscape"], unfollowed := true, recurses := true, apart := false }
def EditThreeSaid : Prop := editThreeRow.holds Try.pinned (OpenSpec.ofChange editThreeSpec)

/-- ITS FALSE NEIGHBOUR: 'it returns false'. Refute it at one input. -/
def editThreeWrong : ChangeSpec := { name := "editThree", fn := fun _ => fun
  | [d1, d2, d3, d4] => { results := [.lit (.bool false)], args := [d1, d2, d3, d4] }
  | _ => none }
def EditThreeWrongFalsely : Prop := editThreeRow.holds Try.pinned (OpenSpec.ofChange editThreeWrong)

/- THE SECOND FORM. 'bulk': how many values and letters a reading holds, each counted each time it is reached (what is shared counts as often as it is met; a slice's spare places count too). A statement '..UptoSaid' is the law's where the arguments, and the package variables that the reading takes, are together of bulk at most 1048576: NARROWER than '..Said'. Prove '..Said' where nothing that the law and all that it calls make is longer than what came in: it says more and counts as full. Else prove '..UptoSaid'. A law counts once. -/
mutual
def uptoBulk {H : Type} : DataW H → Nat
  | .lit (.string bytes) => bytes.length + 1
  | .lit _ => 1
  | .nil => 1
  | .ptr d => uptoBulk d + 1
  | .slice elems spare => uptoBulkAll elems + uptoBulkAll spare + 1
  | .agg parts => uptoBulkAll parts + 1
  | .iface _ d => uptoBulk d + 1
  | .map entries => uptoBulkEntries entries + 1
  | .held _ => 1
def uptoBulkAll {H : Type} : List (DataW H) → Nat
  | [] => 0
  | d :: r => uptoBulk d + uptoBulkAll r
def uptoBulkEntries {H : Type} : List (Lit × DataW H) → Nat
  | [] => 0
  | x :: r => uptoBulkEntry x + uptoBulkEntries r
def uptoBulkEntry {H : Type} : Lit × DataW H → Nat
  | (.string bytes, d) => bytes.length + uptoBulk d + 1
  | (_, d) => uptoBulk d + 1
 end
def uptoSmall : (H : Type) → List (DataW H) → Bool := fun _ ds => decide (uptoBulkAll ds ≤ 1048576)
def OpenSpec.upto (s : _root_.Go.ChangeSpec) : _root_.Go.OpenSpec := { _root_.Go.OpenSpec.ofChange s with cond := some uptoSmall }

/-- 'whetstonelaw01.SpanPlaces', WHERE WHAT IT READS IS OF BULK AT MOST 1048576: true; the input reads as it did. -/
def spanPlacesUptoRow : OpenClaim := { program := "ytendbkbjmibchaa", sum := "523b1640904c31720bc381c75aec6b47cba2d13f3a1e226c32a2111d1236a6f2", func := "whetstone/whetstonelaw01.SpanPlaces", spec := "spanPlaces", apart := false, narrowed := true }
def SpanPlacesUptoSaid : Prop := spanPlacesUptoRow.holds Try.pinned (OpenSpec.upto spanPlacesSpec)

/-- 'whetstonelaw01.SpanBack', WHERE WHAT IT READS IS OF BULK AT MOST 1048576: true; the input reads as it did. -/
def spanBackUptoRow : OpenClaim := { program := "ytendbkbjmibchaa", sum := "523b1640904c31720bc381c75aec6b47cba2d13f3a1e226c32a2111d1236a6f2", func := "whetstone/whetstonelaw01.SpanBack", spec := "spanBack", apart := false, narrowed := true }
def SpanBackUptoSaid : Prop := spanBackUptoRow.holds Try.pinned (OpenSpec.upto spanBackSpec)

/-- 'whetstonelaw01.SpanMeets', WHERE WHAT IT READS IS OF BULK AT MOST 1048576: true; the input reads as it did. -/
def spanMeetsUptoRow : OpenClaim := { program := "ytendbkbjmibchaa", sum := "523b1640904c31720bc381c75aec6b47cba2d13f3a1e226c32a2111d1236a6f2", func := "whetstone/whetstonelaw01.SpanMeets", spec := "spanMeets", apart := false, narrowed := true }
def SpanMeetsUptoSaid : Prop := spanMeetsUptoRow.holds Try.pinned (OpenSpec.upto spanMeetsSpec)

/-- 'whetstonelaw01.SpanCuts', WHERE WHAT IT READS IS OF BULK AT MOST 1048576: true; the input reads as it did. -/
def spanCutsUptoRow : OpenClaim := { program := "ytendbkbjmibchaa", sum := "523b1640904c31720bc381c75aec6b47cba2d13f3a1e226c32a2111d1236a6f2", func := "whetstone/whetstonelaw01.SpanCuts", spec := "spanCuts", apart := false, narrowed := true }
def SpanCutsUptoSaid : Prop := spanCutsUptoRow.holds Try.pinned (OpenSpec.upto spanCutsSpec)

/-- 'whetstonelaw01.SpanRows', WHERE WHAT IT READS IS OF BULK AT MOST 1048576: true; the input reads as it did. -/
def spanRowsUptoRow : OpenClaim := { program := "ytendbkbjmibchaa", sum := "523b1640904c31720bc381c75aec6b47cba2d13f3a1e226c32a2111d1236a6f2", func := "whetstone/whetstonelaw01.SpanRows", spec := "spanRows", apart := false, narrowed := true }
def SpanRowsUptoSaid : Prop := spanRowsUptoRow.holds Try.pinned (OpenSpec.upto spanRowsSpec)

/-- 'whetstonelaw02.EditDoes', WHERE WHAT IT READS IS OF BULK AT MOST 1048576: true; the input reads as it did. -/
def editDoesUptoRow : OpenClaim := { program := "ytendbkbjmibchaa", sum := "523b1640904c31720bc381c75aec6b47cba2d13f3a1e226c32a2111d1236a6f2", func := "whetstone/whetstonelaw02.EditDoes", spec := "editDoes", inPlace := ["internal/abi.NoEscape"], unfollowed := true, recurses := true, apart := false, narrowed := true }
def EditDoesUptoSaid : Prop := editDoesUptoRow.holds Try.pinned (OpenSpec.upto editDoesSpec)

/-- 'whetstonelaw02.EditBack', WHERE WHAT IT READS IS OF BULK AT MOST 1048576: true; the input reads as it did. -/
def editBackUptoRow : OpenClaim := { program := "ytendbkbjmibchaa", sum := "523b1640904c31720bc381c75aec6b47cba2d13f3a1e226c32a2111d1236a6f2", func := "whetstone/whetstonelaw02.EditBack", spec := "editBack", inPlace := ["internal/abi.NoEscape"], unfollowed := true, recurses := true, apart := false, narrowed := true }
def EditBackUptoSaid : Prop := editBackUptoRow.holds Try.pinned (OpenSpec.upto editBackSpec)

/-- 'whetstonelaw02.EditBoth', WHERE WHAT IT READS IS OF BULK AT MOST 1048576: true; the input reads as it did. -/
def editBothUptoRow : OpenClaim := { program := "ytendbkbjmibchaa", sum := "523b1640904c31720bc381c75aec6b47cba2d13f3a1e226c32a2111d1236a6f2", func := "whetstone/whetstonelaw02.EditBoth", spec := "editBoth", inPlace := ["internal/abi.NoEscape"], unfollowed := true, recurses := true, apart := false, narrowed := true }
def EditBothUptoSaid : Prop := editBothUptoRow.holds Try.pinned (OpenSpec.upto editBothSpec)

/-- 'whetstonelaw02.EditSorts', WHERE WHAT IT READS IS OF BULK AT MOST 1048576: true; the input reads as it did. -/
def editSortsUptoRow : OpenClaim := { program := "ytendbkbjmibchaa", sum := "523b1640904c31720bc381c75aec6b47cba2d13f3a1e226c32a2111d1236a6f2", func := "whetstone/whetstonelaw02.EditSorts", spec := "editSorts", inPlace := ["internal/abi.NoEscape"], unfollowed := true, recurses := true, apart := false, narrowed := true }
def EditSortsUptoSaid : Prop := editSortsUptoRow.holds Try.pinned (OpenSpec.upto editSortsSpec)

/-- 'whetstonelaw02.EditThree', WHERE WHAT IT READS IS OF BULK AT MOST 1048576: true; the input reads as it did. -/
def editThreeUptoRow : OpenClaim := { program := "ytendbkbjmibchaa", sum := "523b1640904c31720bc381c75aec6b47cba2d13f3a1e226c32a2111d1236a6f2", func := "whetstone/whetstonelaw02.EditThree", spec := "editThree", inPlace := ["internal/abi.NoEscape"], unfollowed := true, recurses := true, apart := false, narrowed := true }
def EditThreeUptoSaid : Prop := editThreeUptoRow.holds Try.pinned (OpenSpec.upto editThreeSpec)

end Rows
end Go.Proofs.Ytendbkbjmibchaa
