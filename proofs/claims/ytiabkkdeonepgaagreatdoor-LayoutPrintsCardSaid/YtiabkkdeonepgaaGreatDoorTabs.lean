import Derived.Test.YtiabkkdeonepgaaGreatDoorShA
import Derived.Test.YtiabkkdeonepgaaGreatDoorTie
import Derived.Test.YtiabkkdeonepgaaGreatDoorCards
import Derived.Test.YtiabkkdeonepgaaGreatDoorLaw
import Derived.PinnedBridge
import Derived.Lib.LaidU8
import Derived.Lay
import Derived.SevenTiedAt
namespace Go.Proofs.YtiabkkdeonepgaaGreatDoor
open Go.Shelf Go.Lib Go.RowKit
theorem own : ownKnob Tryz.prog.godebug = none := by kernel_rfl
theorem laidOut : laidOutB Tryz.prog = true := by kernel_rfl
theorem accept_eq : (Rows.laid_unicode_utf8_acceptRanges : DataW Unit) = acceptData := by kernel_rfl
theorem first_eq : Rows.laid_unicode_utf8_first = firstData := Pinned.utf8First_eq
theorem u8x : U8Extra Tryz.prog sh_lays260_ren := ⟨by kernel_rfl, by kernel_rfl, by kernel_rfl, by kernel_rfl, by kernel_rfl, by kernel_rfl, by kernel_rfl⟩
theorem tabs_of {l : List (String × DataW Unit)} {W : World} (hL : laidMet Tryz.prog l W) (h1 : ("unicode/utf8.first", Rows.laid_unicode_utf8_first) ∈ l) (h2 : ("unicode/utf8.acceptRanges", Rows.laid_unicode_utf8_acceptRanges) ∈ l) : Lib.Utf8Tabs 0 1 W :=
  utf8Tabs_of_reads sh_lays260 u8x (first_eq ▸ Lib.laidMet.reads hL h1) (accept_eq ▸ Lib.laidMet.reads hL h2)
theorem rd9 : Tryz.prog.readableRec 9 = true ∧ 9 < Tryz.prog.types.size := ⟨by kernel_rfl, of_decide_eq_true (by kernel_rfl)⟩
end Go.Proofs.YtiabkkdeonepgaaGreatDoor
