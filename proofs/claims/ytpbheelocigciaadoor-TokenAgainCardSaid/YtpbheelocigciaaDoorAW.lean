/- The document's example of package runes holds. -/
import Derived.Test.YtpbheelocigciaaDoorPU
import Derived.Test.YtpbheelocigciaaDoorRC
namespace Go.Proofs.YtpbheelocigciaaDoor
open Go.RowKit

theorem badI_a : badI [97] = -1 := by
  refine badI_none ?_
  rw [bad_step (by simp) (by decide)]
  rw [show List.drop (dec [97]).2 ([97] : List UInt8) = [] by decide, bad_nil]
  rfl
set_option maxHeartbeats 1000000 in
theorem awake_any (w : World) (hT : Tabs w) : Calls Tryd.prog 12 #[] w fun e w' => e = .returned (.bool true) ∧ Below w.heap.size w w' := by
  have c1 : Calls Tryd.prog 25 #[.string ⟨#[10]⟩] w fun e w' => e = .returned (.string ⟨#[34, 92, 110, 34]⟩) ∧ Below w.heap.size w w' := quote_any ⟨#[10]⟩ w (by decide)
  have C1 := Lib.hid c1
  have HT := Lib.hid hT
  clear c1 hT
  go_enter Tryd.func12, Tryd.ntmps12
  go_wp2_with fail
  refine C1.out.mono ?_
  rintro e w1 ⟨rfl, hb⟩
  have c2 : Calls Tryd.prog 13 #[.string ⟨#[97]⟩] w1 fun e w' => e = .returned (.int .i64 (-1)) ∧ Below w1.heap.size w1 w' := by
    have := bad_any ⟨#[97]⟩ w1 (Utf8Tabs_below HT.out hb) (by decide)
    rwa [show badI (ByteArray.mk #[97]).data.toList = -1 from badI_a] at this
  have C2 := Lib.hid c2
  have HB := Lib.hid hb
  clear c2 hb
  go_wp2_with fail
  refine C2.out.mono ?_
  rintro e w2 ⟨rfl, hb⟩
  have HB2 := Lib.hid (HB.out.trans (hb.mono HB.out.size))
  clear hb
  go_wp2_with fail
  go_ret
  exact ⟨rfl, HB2.out⟩

theorem step_below {w w1 w2 : World} (h : Below w.heap.size w w1) (h' : Below w1.heap.size w1 w2) : Below w.heap.size w w2 := h.trans (h'.mono h.size)
end Go.Proofs.YtpbheelocigciaaDoor
