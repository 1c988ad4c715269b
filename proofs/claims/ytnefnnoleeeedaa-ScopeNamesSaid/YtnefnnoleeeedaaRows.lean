/-
  NARROWER THAN 'FOR EVERY INPUT', by the rows' own cells (each row's printed sentence says how): ScopeTrees: loops.
  DERIVED. THE GIVEN ROWS OF THIS SEAT. 4 by the template 'for every input the law returns true; each argument reads behind the call as it read before'; 0 by the template 'total and deterministic' (their statements: YtnefnnoleeeedaaTotals.lean).
  GIVEN WITH THE SEED: the statements are not yours to turn. If you find one false, say at which input.
  Laid BY PROGRAM, IN A SANDBOX (cutbox-rows.mjs): the forced cells as the released guide's own fill.sh prints them over the translation b53c49482a9025d4… (all of the seat's roots in one cut). By AI agents, Wed Nov 11 2026. No macro, syntax, notation, axiom, sorry.
-/
import Derived.Test.YtnefnnoleeeedaaChecked
import GoSem.Claim
import GoSem.ClaimJoined
import GoSem.ClaimMapViews
import Derived.JoinedTies
import Derived.KernelRfl
namespace Go.Proofs.Ytnefnnoleeeedaa
/- THE CELL 'sum', in the pinned program and in every row, IS THE sha256 OF THE DUMP (.gsa) THAT YtnefnnoleeeedaaProg.lean LOADS. Nothing in Lean hashes anything: it is a label: what it is worth is what the hold of that sum in a sandbox is worth. -/
noncomputable def Try.pinned : Pinned := { name := "ytnefnnoleeeedaa", sum := "b53c49482a9025d4bdaecc8aeb556fb950317e0117582b42b391dbe020f46518", checked := Try.checked }
namespace Rows
def none {H : Type} : Left H := { results := [], args := [] }

/-- 'whetstonelaw12.ScopeBinds': WHATEVER THE INPUT: true; the input reads as it did. -/
def scopeBindsSpec : ChangeSpec := { name := "scopeBinds", fn := fun _ => fun
  | [d] => { results := [.lit (.bool true)], args := [d] }
  | _ => none }
def scopeBindsRow : OpenClaim := { program := "ytnefnnoleeeedaa", sum := "b53c49482a9025d4bdaecc8aeb556fb950317e0117582b42b391dbe020f46518", func := "whetstone/whetstonelaw12.ScopeBinds", spec := "scopeBinds", unfollowed := true, recurses := true, apart := false }
def ScopeBindsSaid : Prop := scopeBindsRow.holds Try.pinned (OpenSpec.ofChange scopeBindsSpec)

/-- ITS FALSE NEIGHBOUR: 'it returns false'. Refute it at one input. -/
def scopeBindsWrong : ChangeSpec := { name := "scopeBinds", fn := fun _ => fun
  | [d] => { results := [.lit (.bool false)], args := [d] }
  | _ => none }
def ScopeBindsWrongFalsely : Prop := scopeBindsRow.holds Try.pinned (OpenSpec.ofChange scopeBindsWrong)

/-- 'whetstonelaw12.ScopeTrees': WHATEVER THE INPUT: true; the input reads as it did. -/
def scopeTreesSpec : ChangeSpec := { name := "scopeTrees", fn := fun _ => fun
  | [d] => { results := [.lit (.bool true)], args := [d] }
  | _ => none }
def scopeTreesRow : OpenClaim := { program := "ytnefnnoleeeedaa", sum := "b53c49482a9025d4bdaecc8aeb556fb950317e0117582b42b391dbe020f46518", func := "whetstone/whetstonelaw12.ScopeTrees", spec := "scopeTrees", unfollowed := true, recurses := true, loops := true, apart := false }
def ScopeTreesSaid : Prop := scopeTreesRow.holds Try.pinned (OpenSpec.ofChange scopeTreesSpec)

/-- ITS FALSE NEIGHBOUR: 'it returns false'. Refute it at one input. -/
def scopeTreesWrong : ChangeSpec := { name := "scopeTrees", fn := fun _ => fun
  | [d] => { results := [.lit (.bool false)], args := [d] }
  | _ => none }
def ScopeTreesWrongFalsely : Prop := scopeTreesRow.holds Try.pinned (OpenSpec.ofChange scopeTreesWrong)

/-- 'whetstonelaw12.ScopeNames': WHATEVER THE INPUT: true; the input reads as it did. -/
def scopeNamesSpec : ChangeSpec := { name := "scopeNames", fn := fun _ => fun
  | [d1, d2, d3] => { results := [.lit (.bool true)], args := [d1, d2, d3] }
  | _ => none }
def scopeNamesRow : OpenClaim := { program := "ytnefnnoleeeedaa", sum := "b53c49482a9025d4bdaecc8aeb556fb950317e0117582b42b391dbe020f46518", func := "whetstone/whetstonelaw12.ScopeNames", spec := "scopeNames", unfollowed := true, recurses := true, apart := false }
def ScopeNamesSaid : Prop := scopeNamesRow.holds Try.pinned (OpenSpec.ofChange scopeNamesSpec)

/-- ITS FALSE NEIGHBOUR: 'it returns false'. Refute it at one input. -/
def scopeNamesWrong : ChangeSpec := { name := "scopeNames", fn := fun _ => fun
  | [d1, d2, d3] => { results := [.lit (.bool false)], args := [d1, d2, d3] }
  | _ => none }
def ScopeNamesWrongFalsely : Prop := scopeNamesRow.holds Try.pinned (OpenSpec.ofChange scopeNamesWrong)

/-- 'whetstonelaw12.ScopeInside': WHATEVER THE INPUT: true; the input reads as it did. -/
def scopeInsideSpec : ChangeSpec := { name := "scopeInside", fn := fun _ => fun
  | [d] => { results := [.lit (.bool true)], args := [d] }
  | _ => none }
def scopeInsideRow : OpenClaim := { program := "ytnefnnoleeeedaa", sum := "b53c49482a9025d4bdaecc8aeb556fb950317e0117582b42b391dbe020f46518", func := "whetstone/whetstonelaw12.ScopeInside", spec := "scopeInside", unfollowed := true, recurses := true, apart := false }
def ScopeInsideSaid : Prop := scopeInsideRow.holds Try.pinned (OpenSpec.ofChange scopeInsideSpec)

/-- ITS FALSE NEIGHBOUR: 'it returns false'. Refute it at one input. -/
def scopeInsideWrong : ChangeSpec := { name := "scopeInside", fn := fun _ => fun
  | [d] => { results := [.lit (.bool false)], args := [d] }
  | _ => none }
def ScopeInsideWrongFalsely : Prop := scopeInsideRow.holds Try.pinned (OpenSpec.ofChange scopeInsideWrong)

/- THE SECOND FORM. 'bulk': how many values and letters a reading holds, each counted each time it is reached (what is shared counts as often as it is met; a slice's spare places count too). A statement '..UptoSaid' is the law's where the arguments, and the package variables that the reading takes, are together of bulk at most 1048576: NARROWER than '..Said'. Prove '..Said' where nothing that the law and all that it calls make is longer than what came in: it says more and counts as full. Else prove '..UptoSaid'. A law counts once. -/
mutual
def uptoBulk {H : Type} : DataW H → Nat
  | .lit (.string bytes) => bytes.length + 1
  | .lit _ => 1
  | .nil => 1
  | .ptr d => uptoBulk d + 1
  | .slice elems spare => uptoBulkAll elems + uptoBulkAll spare + 1
  | .agg parts => uptoBulkAll parts + 1
  | .iface _ d => uptoBulk d + 1
  | .map entries => uptoBulkEntries entries + 1
  | .held _ => 1
def uptoBulkAll {H : Type} : List (DataW H) → Nat
  | [] => 0
  | d :: r => uptoBulk d + uptoBulkAll r
def uptoBulkEntries {H : Type} : List (Lit × DataW H) → Nat
  | [] => 0
  | x :: r => uptoBulkEntry x + uptoBulkEntries r
def uptoBulkEntry {H : Type} : Lit × DataW H → Nat
  | (.string bytes, d) => bytes.length + uptoBulk d + 1
  | (_, d) => uptoBulk d + 1
 end
def uptoSmall : (H : Type) → List (DataW H) → Bool := fun _ ds => decide (uptoBulkAll ds ≤ 1048576)
def OpenSpec.upto (s : _root_.Go.ChangeSpec) : _root_.Go.OpenSpec := { _root_.Go.OpenSpec.ofChange s with cond := some uptoSmall }

/-- 'whetstonelaw12.ScopeBinds', WHERE WHAT IT READS IS OF BULK AT MOST 1048576: true; the input reads as it did. -/
def scopeBindsUptoRow : OpenClaim := { program := "ytnefnnoleeeedaa", sum := "b53c49482a9025d4bdaecc8aeb556fb950317e0117582b42b391dbe020f46518", func := "whetstone/whetstonelaw12.ScopeBinds", spec := "scopeBinds", unfollowed := true, recurses := true, apart := false, narrowed := true }
def ScopeBindsUptoSaid : Prop := scopeBindsUptoRow.holds Try.pinned (OpenSpec.upto scopeBindsSpec)

/-- 'whetstonelaw12.ScopeTrees', WHERE WHAT IT READS IS OF BULK AT MOST 1048576: true; the input reads as it did. -/
def scopeTreesUptoRow : OpenClaim := { program := "ytnefnnoleeeedaa", sum := "b53c49482a9025d4bdaecc8aeb556fb950317e0117582b42b391dbe020f46518", func := "whetstone/whetstonelaw12.ScopeTrees", spec := "scopeTrees", unfollowed := true, recurses := true, loops := true, apart := false, narrowed := true }
def ScopeTreesUptoSaid : Prop := scopeTreesUptoRow.holds Try.pinned (OpenSpec.upto scopeTreesSpec)

/-- 'whetstonelaw12.ScopeNames', WHERE WHAT IT READS IS OF BULK AT MOST 1048576: true; the input reads as it did. -/
def scopeNamesUptoRow : OpenClaim := { program := "ytnefnnoleeeedaa", sum := "b53c49482a9025d4bdaecc8aeb556fb950317e0117582b42b391dbe020f46518", func := "whetstone/whetstonelaw12.ScopeNames", spec := "scopeNames", unfollowed := true, recurses := true, apart := false, narrowed := true }
def ScopeNamesUptoSaid : Prop := scopeNamesUptoRow.holds Try.pinned (OpenSpec.upto scopeNamesSpec)

/-- 'whetstonelaw12.ScopeInside', WHERE WHAT IT READS IS OF BULK AT MOST 1048576: true; the input reads as it did. -/
def scopeInsideUptoRow : OpenClaim := { program := "ytnefnnoleeeedaa", sum := "b53c49482a9025d4bdaecc8aeb556fb950317e0117582b42b391dbe020f46518", func := "whetstone/whetstonelaw12.ScopeInside", spec := "scopeInside", unfollowed := true, recurses := true, apart := false, narrowed := true }
def ScopeInsideUptoSaid : Prop := scopeInsideUptoRow.holds Try.pinned (OpenSpec.upto scopeInsideSpec)

end Rows
end Go.Proofs.Ytnefnnoleeeedaa
