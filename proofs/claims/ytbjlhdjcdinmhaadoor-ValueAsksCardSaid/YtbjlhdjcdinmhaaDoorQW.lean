/- Contracts: the law's example (awake). -/
import Derived.Test.YtbjlhdjcdinmhaaDoorQV
namespace Go.Proofs.YtbjlhdjcdinmhaaDoor
open Go.RowKit Go.Op
namespace Vm
def bA : ByteArray := ⟨#[97]⟩
def bB : ByteArray := ⟨#[98]⟩
def bX : ByteArray := ⟨#[120]⟩
def v1 : Vl := .mk ⟨1, 1, ⟨#[]⟩⟩ [] []
def vX : Vl := .mk ⟨2, 0, bX⟩ [] []
def vE : Vl := .mk ⟨3, 0, ⟨#[]⟩⟩ [bA, bB] [vX, v1]
theorem isRecE : IsRec [bB, bA] [v1, vX] vE := ⟨rfl, by kernel_rfl, rfl, fun x p => by
  simp only [vE, names_mk, parts_mk, List.zip_cons_cons, List.zip_nil_left, List.mem_cons, List.not_mem_nil, or_false]
  exact or_comm⟩
theorem nodupE : ([bB, bA] : List ByteArray).Nodup := by decide
theorem rightE : vE.right = true := by kernel_rfl
theorem txtE : textS vE = ⟨#[123, 97, 58, 32, 34, 120, 34, 44, 32, 98, 58, 32, 49, 125]⟩ := by
  unfold textS
  rw [rightE, if_pos rfl]
  kernel_rfl
theorem goodE : vE.cnt ≤ 1000001 ∧ vE.rng ∧ vE.byt ≤ 100000 ∧ vE.text.length ≤ lim := by
  refine ⟨by decide, ?_, by decide, ?_⟩
  · simp [vE, vX, v1, Vl.rng, rngL]
  · have : vE.text.length = 14 := by kernel_rfl
    rw [this]; decide
set_option maxHeartbeats 8000000 in
set_option maxRecDepth 100000 in
theorem awake_any (w : World) (hT : Tb w) : Calls Tryd.prog 11 #[] w fun e w' => e = .returned (.bool true) ∧ Below w.heap.size w w' := by
  have HT := Lib.hid hT
  clear hT
  have b1 := bel1 w (.cells #[.string ⟨#[98]⟩, .string ⟨#[97]⟩] 9)
  have R1 := Lib.hid (RowB.new w 9 #[.string ⟨#[98]⟩, .string ⟨#[97]⟩])
  obtain ⟨w1, hw1⟩ : ∃ w1, w1 = w.alloc (.cells #[.string ⟨#[98]⟩, .string ⟨#[97]⟩] 9) := ⟨_, rfl⟩
  rw [← hw1] at b1 R1
  have HB1 := Lib.hid b1
  clear b1
  go_enter Tryd.func11, Tryd.ntmps11
  go_wp2_with fail
  rw [← hw1]
  clear hw1
  refine (num_any 1 w1).mono ?_
  rintro e w2 ⟨rfl, h2⟩
  have HB2 := Lib.hid (HB1.out.trans (h2.mono HB1.out.size))
  have R2 := Lib.hid (R1.out.below h2 R1.out.lt)
  clear h2 HB1 R1
  simp only [vv, hd_mk, names_mk, parts_mk, List.length_nil]
  go_wp2_with fail
  refine (str_any ⟨#[120]⟩ w2).mono ?_
  rintro e w3 ⟨rfl, h3⟩
  have HB3 := Lib.hid (HB2.out.trans (h3.mono HB2.out.size))
  have R3 := Lib.hid (R2.out.below h3 R2.out.lt)
  clear h3 HB2 R2
  simp only [vv, hd_mk, names_mk, parts_mk, List.length_nil]
  obtain ⟨cl, hcl⟩ : ∃ cl : Array Value, cl = #[.int .i64 1, .int .i64 1, .string ⟨#[]⟩, .slice none 0 0, .slice none 0 0, .int .i64 2, .int .i64 0, .string ⟨#[120]⟩, .slice none 0 0, .slice none 0 0] := ⟨_, rfl⟩
  have b4 := bel1 w3 (.cells cl 34)
  have R4 := RowB.new w3 34 cl
  have HE4 : Hid (∀ w4, w4 = w3.alloc (.cells cl 34) → Calls Tryd.prog 23 #[.slice (some ⟨w.heap.size, 0, none⟩) 2 2, .slice (some ⟨w3.heap.size, 0, none⟩) 2 2] w4 (RecQ (fun g => g < w4.heap.size) [bB, bA] [v1, vX] w4)) := fun w4 h4 => by
    rw [← h4] at b4 R4
    have r3 := R3.out.below b4 R3.out.lt
    have hN : NV w4 (fun g => g < w4.heap.size) [bB, bA] (some ⟨w.heap.size, 0, none⟩) 2 := ⟨by decide, fun s hs => by
      have : s = bB ∨ s = bA := by simpa using hs
      rcases this with rfl | rfl <;> decide, fun _ => ⟨_, 0, rfl, r3.lt, r3.lt, fun i s hs => by
      rw [Nat.zero_add, r3.cell]
      match i, hs with
      | 0, hs => simp at hs; subst hs; rfl
      | 1, hs => simp at hs; subst hs; rfl
      | i + 2, hs => simp at hs⟩⟩
    have hV : VV w4 (fun g => g < w4.heap.size) [v1, vX] (some ⟨w3.heap.size, 0, none⟩) 2 := by
      refine VV.new R4 ?_ R4.lt
      rw [hcl]
      exact VL.app _ _ (VL.one (t := v1) (VI_iff.2 ⟨NV.nil _ _ none 0, VV.nil _ _ none 0⟩)) (VL.one (t := vX) (VI_iff.2 ⟨NV.nil _ _ none 0, VV.nil _ _ none 0⟩))
    exact record_any w4 [bB, bA] [v1, vX] _ _ 2 _ 2 hN hV (by decide)
  have HB4 := Lib.hid (HB3.out.trans (b4.mono HB3.out.size))
  clear b4 R4 R3
  go_wp2_with fail
  rw [← hcl]
  obtain ⟨w4, hw4⟩ : ∃ w4, w4 = w3.alloc (.cells cl 34) := ⟨_, rfl⟩
  have C4 := HE4.out w4 hw4
  rw [← hw4] at HB4 ⊢
  clear hw4 HE4 hcl
  refine C4.mono ?_
  rintro e w5 ⟨t, Bn, dn, B, d, z, rfl, hti, h5, hz⟩
  obtain ⟨rfl, rfl⟩ : z = 0 ∧ t = vE := by
    rcases hz with ⟨_, h, _⟩ | ⟨_, _, h, _⟩ | ⟨h0, _, _, h⟩
    · exact absurd rfl h
    · exact absurd nodupE h
    · exact ⟨h0, h.uniq isRecE⟩
  have b6 := bel1 w5 (.cells (varr ⟨3, 0, ⟨#[]⟩⟩ Bn 2 dn B 2 d) 34)
  have R6 := Lib.hid (RowB.new w5 34 (varr ⟨3, 0, ⟨#[]⟩⟩ Bn 2 dn B 2 d))
  have HB5 := Lib.hid (HB4.out.trans (h5.mono HB4.out.size))
  have HB6 := Lib.hid (HB5.out.trans (b6.mono HB5.out.size))
  have HTI := Lib.hid (hti.below b6)
  obtain ⟨w6, hw6⟩ : ∃ w6, w6 = w5.alloc (.cells (varr ⟨3, 0, ⟨#[]⟩⟩ Bn 2 dn B 2 d) 34) := ⟨_, rfl⟩
  rw [← hw6] at R6 HB6 HTI
  have C6 := text_any vE goodE.1 goodE.2.1 goodE.2.2.1 goodE.2.2.2 w6 _ Bn dn B d HTI.out (HT.out.step HB6.out)
  rw [txtE] at C6
  have HC6 := Lib.hid C6
  have r6 := R6.out.cell
  simp only [vE, vv, hd_mk, names_mk, parts_mk, List.length_cons, List.length_nil] at HC6 ⊢
  clear hti hz h5 b6 C4 C6 HB5 HTI
  go_wp2_with fail
  try rw [← hw6]
  refine HC6.out.mono ?_
  rintro e w7 ⟨rfl, h7⟩
  have HB7 := Lib.hid (HB6.out.trans (h7.mono HB6.out.size))
  clear h7 HC6 r6
  go_wp2_with fail
  (first | go_ret | go_ret2)
  exact ⟨rfl, HB7.out⟩
end Vm
end Go.Proofs.YtbjlhdjcdinmhaaDoor
