/- The document's example of package token holds; names and keys. -/
import Derived.Test.YtpbheelocigciaaDoorTF
namespace Go.Proofs.YtpbheelocigciaaDoor
open Go.RowKit

theorem Tabs.step {w w' : World} (h : Tabs w) (hb : Below w.heap.size w w') : Tabs w' := Utf8Tabs_below h hb

set_option maxHeartbeats 2000000 in
set_option maxRecDepth 100000 in
theorem awake4_any (w : World) (hT : Tabs w) (hE : Errs w) : Calls Tryd.prog 28 #[] w fun e w' => e = .returned (.bool true) ∧ Below w.heap.size w w' := by
  have C := Lib.hid (lext_any ⟨#[97, 61, 49, 32, 35, 32, 120]⟩ (by decide) w hT hE)
  clear hT hE
  go_enter Tryd.func28, Tryd.ntmps28
  go_wp2_with fail
  refine C.out.mono ?_
  rintro e w1 ⟨hb, h⟩
  rw [lexR_ex] at h
  obtain ⟨A, cap, rfl, ht, _, hcap⟩ := h
  obtain ⟨g, rfl, hg, hc⟩ := ht (by decide)
  have h4 : 4 ≤ cap := hcap (by decide)
  have q0 : w1.cell? ⟨g, 0, none⟩ = some (.int .i64 1) := (hc 0 (by decide)).1
  have q1 : w1.cell? ⟨g, 11, none⟩ = some (.string ⟨#[49]⟩) := (hc 2 (by decide)).2.2.2
  have q2 : w1.cell? ⟨g, 14, none⟩ = some (.string ⟨#[32, 35, 32, 120]⟩) := (hc 3 (by decide)).2.2.1
  have HB := Lib.hid hb
  have e4 : exT.length = 4 := rfl
  rw [e4]
  clear hb hc hcap e4 ht
  go_wp2_with fail
  go_ret
  exact ⟨by simp, HB.out⟩
end Go.Proofs.YtpbheelocigciaaDoor
